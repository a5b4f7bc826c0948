/-
  Part 5 of the texts that the seat's proofs stand on; each part of it begins with its own sentence and conditions. Conditions: those that each theorem names.
-/
import Derived.Test.YtjifionpblpfoaaDoorUnlikePack4
import Derived.ArgAppend
import Derived.ChangeKeysEq
import Derived.StillTail
import Derived.Deep.Quiet
import Derived.Deep.QuietTactic
import Derived.BigQuiet
import Derived.KernelRfl

/-
  What the laws of layer 16 that encode, decode and name envelopes stand on, over any code. Conditions: those of EnvCd.
-/
namespace Go.Proofs.YtjifionpblpfoaaDoor
open Go.RowKit
open Pol (co Sm)

/-- An envelope's bytes, in bytes of the call's own, and the error's number. -/
def EncO (o : Ev) (w : World) (e : Ending) (w' : World) : Prop := ∃ v, e = .returned (.tuple #[v, .int .i64 ((o.chk : Nat) : Int)]) ∧ Mine w' w.heap.size v o.bytes ∧ Ext w w'
/-- The envelope of bytes, whose body is in bytes of the call's own, and the error's number. -/
def DecO (b : List Nat) (w : World) (e : Ending) (w' : World) : Prop :=
  ∃ v, e = .returned (.tuple #[.agg #[.int .i64 (dec16 b).2.s, .int .u64 (((dec16 b).2.n : Nat) : Int), .int .u64 (((dec16 b).2.f : Nat) : Int), .int .u64 (((dec16 b).2.x : Nat) : Int), v], .int .i64 (((dec16 b).1 : Nat) : Int)]) ∧ Mine w' w.heap.size v (dec16 b).2.b ∧ Ext w w'
structure EnvCd : Prop where
  enc : ∀ (s : Int) (n f x k c : Nat) (b : List Nat) (A : Option Addr) (w : World), b.length = k → k ≤ c → Rd w A b → k ≤ 65536 → n < 18446744073709551616 → f < 18446744073709551616 → x < 18446744073709551616 →
    Calls Tryd.prog 9 #[evv s n f x A k c] w (EncO ⟨s, n, f, x, b⟩ w)
  dec : ∀ (b : List Nat) (A : Option Addr) (n c : Nat) (w : World), b.length = n → n ≤ c → Rd w A b → n ≤ 65536 → Calls Tryd.prog 10 #[.slice A n c] w (DecO b w)
  id : ∀ (s : Int) (n f x k c : Nat) (b : List Nat) (A : Option Addr) (w : World), GL w → b.length = k → k ≤ c → Rd w A b → k ≤ 65536 → n < 18446744073709551616 → f < 18446744073709551616 → x < 18446744073709551616 →
    Calls Tryd.prog 16 #[evv s n f x A k c] w (DgS (idv sha ⟨s, n, f, x, b⟩) w)
theorem Ev.bytes_sm {o : Ev} (h : Sm o.b) : Sm o.bytes := by
  unfold Ev.bytes
  split
  · exact Ev.enc_sm h
  · exact Sm.nil
theorem Ev.bytes_ok {o : Ev} (h : o.ok) : o.bytes = o.enc := if_pos h
theorem Ev.bytes_no {o : Ev} (h : ¬ o.ok) : o.bytes = [] := if_neg h
theorem Ev.bytes_len {o : Ev} (h : o.Fit) : o.bytes.length ≤ 64 := by
  by_cases ho : o.ok
  · rw [Ev.bytes_ok ho]
    exact (Ev.enc_len ho h).2
  · rw [Ev.bytes_no ho]
    exact Nat.zero_le _
theorem dec16_fit {b : List Nat} (hs : Sm b) : (dec16 b).2.Fit ∧ (dec16 b).2.b.length ≤ 32 := by
  by_cases h : (dec16 b).1 = 0
  · obtain ⟨h1, _, h3⟩ := dec16_ok hs h
    exact ⟨h3, h1.2.2.2.2⟩
  · have hz : (dec16 b).2 = Ev.zero := by
      unfold dec16 at h ⊢
      cases h1 : rdE b with
      | er n => rfl
      | ok e rest =>
        rw [h1] at h
        dsimp only at h ⊢
        split
        · rfl
        · split
          · rfl
          · rename_i h2 h3
            rw [if_neg h2, if_neg h3] at h
            exact absurd rfl h
    rw [hz]
    exact ⟨⟨by decide, by decide, by decide, Sm.nil⟩, Nat.zero_le _⟩
theorem idv_32 (e : Ev) : (idv sha e).length = 32 := by
  unfold idv
  split
  · exact sha_len _
  · exact List.length_replicate
theorem idv_sm (e : Ev) : Sm (idv sha e) := by
  unfold idv
  split
  · exact sha_sm _
  · intro i
    unfold co
    rw [List.getElem?_replicate]
    split <;> decide
end Go.Proofs.YtjifionpblpfoaaDoor

/-
  Two orders: are they one? Two slices of bytes: are they alike? Conditions: no more than 2^20 bytes.
-/
namespace Go.Proofs.YtjifionpblpfoaaDoor
open Go.RowKit
open Pol (co Sm)

theorem same14 (l m : List Nat) (A B : Option Addr) (n n' ca cb : Nat) (w : World) (hn : l.length = n) (hn' : m.length = n') (ha : Rd w A l) (hb : Rd w B m) (hl : n ≤ 1048576) :
    Calls Tryd.prog 15 #[.slice A n ca, .slice B n' cb] w (Tells (.bool (decide (l = m))) w) := by
  subst hn hn'
  by_cases h : l = m
  · rw [decide_eq_true h]
    subst h
    exact same_tells l A B ca cb w ha hb hl
  · rw [decide_eq_false h]
    exact (same_no l m A B ca cb w ha hb hl h).mono fun _ _ h => h.tells
theorem Od.eq_iff {o p : Od} : o = p ↔ o.k = p.k ∧ o.t = p.t ∧ o.a = p.a ∧ o.m = p.m := by
  constructor
  · rintro rfl; exact ⟨rfl, rfl, rfl, rfl⟩
  · obtain ⟨k, t, a, m⟩ := o
    obtain ⟨k', t', a', m'⟩ := p
    rintro ⟨h1, h2, h3, h4⟩
    dsimp only at h1 h2 h3 h4
    subst h1 h2 h3 h4
    rfl
instance : DecidableEq Od := fun _ _ => decidable_of_iff _ Od.eq_iff.symm
end Go.Proofs.YtjifionpblpfoaaDoor

/-
  A load of a whole value that stays, in a walk by wp_region_stab. Conditions: those of stab_yes.
-/
namespace Go.Proofs.YtjifionpblpfoaaDoor
open Go

section
variable {P : Program} {C : World → Prop} {Q : Exit → Act → World → Prop}
theorem stab_load {F : Nat → Bool} {l : List Oper} {i : Nat} {o : Oper} {π : List (Nat × Bool)} {a : Act} {w : World} (ho : l[i]? = some o) (ty : TypeId) (x : Operand) (hop : o.op = .load ty x) (v : Value)
    (hw : Region.wanted o (yielded l.toArray a.tmps) = true) (hrun : ∀ W, C W → (Instr.loadAt ty (a.eval x)).run P W = .ok v W) (h : wpStab P l C F Q π (a.put o.dst v) w) : wpStab P l C F Q ((i, true) :: π) a w :=
  stab_yes ho (fun _ hK => ⟨hw, v, fun W hW => by simp only [execOp, hop, Sem.run_bind, hrun W hW, Result.andThen, Sem.run_pure], hK _ h⟩)
/-- An operation under a guard that is false. -/
theorem stab_no {F : Nat → Bool} {l : List Oper} {i : Nat} {o : Oper} {π : List (Nat × Bool)} {a : Act} {w : World} (ho : l[i]? = some o) (h : ∀ K : Act → Prop, (∀ a', wpStab P l C F Q π a' w → K a') → Region.wanted o (yielded l.toArray a.tmps) = false ∧ K (a.put o.dst undef)) : wpStab P l C F Q ((i, true) :: π) a w := by
  obtain ⟨h1, h2⟩ := h (fun a' => wpStab P l C F Q π a' w) (fun _ h => h)
  exact ⟨o, undef, ho, .inr (.inl ⟨h1, rfl⟩), h2⟩
end
end Go.Proofs.YtjifionpblpfoaaDoor

/-
  A whole envelope loaded. Conditions: none.
-/
namespace Go.Proofs.YtjifionpblpfoaaDoor
open Go.RowKit
open Pol (co Sm)

theorem load_ev16 {w : World} {g : Nat} {a b c d e : Value} {t : TypeId} {fr : Nat × Nat} (hg : w.heap[g]? = some (.cells #[a, b, c, d, e] t fr)) : (Instr.loadAt 25 (.pointer (some ⟨g, 0, none⟩))).run Tryd.prog w = .ok (.agg #[a, b, c, d, e]) w := by
  simp only [Instr.loadAt, Instr.sureAddr, Sem.run_bind, Sem.run_pure, Result.andThen]
  exact run_loadVar_row w g t _ _ fr _ hg Tryd.underlying25 rfl ev_in16
end Go.Proofs.YtjifionpblpfoaaDoor

/-
  A load of a whole array, under a guard. Conditions: none; no function is named here.
-/
namespace Go.Proofs.YtjifionpblpfoaaDoor
open Go.RowKit

theorem wpList_load_row_g {P : Program} {ops : Array Oper} {rest : List Oper} {o : Oper} {a : Act} {w : World} {Q : Exit → Act → World → Prop} (hgd : Region.wanted o (yielded ops a.tmps) = true) (ty : TypeId) (x : Operand) (ho : o.op = .load ty x)
    (g : Nat) (hx : a.eval x = .pointer (some ⟨g, 0, none⟩)) (t : TypeId) (cs : Array Value) (fr : Nat × Nat) (d : TypeDesc) (hg : w.heap[g]? = some (.cells cs t fr))
    (hu : P.underlying ty = some d) (hd : (match d with | .struct _ | .array _ _ => true | _ => false) = true) (hi : (P.info? ty).map (·.size) = some cs.size)
    (h : wpList P ops Q rest (a.put o.dst (.agg cs)) w) : wpList P ops Q (o :: rest) a w := by
  unfold wpList
  rw [if_pos hgd]
  exact .inl (wp_load_row ty x ho g hx t cs fr d hg hu hd hi h)
theorem wpIf_load_row {P : Program} {ops : Array Oper} {o : Oper} {a : Act} {w : World} {K : Act → World → Prop} {Q : Exit → Act → World → Prop} {E : Prop} (hgd : Region.wanted o (yielded ops a.tmps) = true) (ty : TypeId) (x : Operand) (ho : o.op = .load ty x)
    (g : Nat) (hx : a.eval x = .pointer (some ⟨g, 0, none⟩)) (t : TypeId) (cs : Array Value) (fr : Nat × Nat) (d : TypeDesc) (hg : w.heap[g]? = some (.cells cs t fr))
    (hu : P.underlying ty = some d) (hd : (match d with | .struct _ | .array _ _ => true | _ => false) = true) (hi : (P.info? ty).map (·.size) = some cs.size)
    (h : K (a.put o.dst (.agg cs)) w) : if Region.wanted o (yielded ops a.tmps) = true then Oper.wp P o a w K Q else E := by
  rw [if_pos hgd]
  exact wp_load_row ty x ho g hx t cs fr d hg hu hd hi h
end Go.Proofs.YtjifionpblpfoaaDoor

/-
  Bytes, and bytes of a call's own, where only some blocks have changed. Conditions: none; no function is named here.
-/
namespace Go.Proofs.YtjifionpblpfoaaDoor
open Go.RowKit
open Pol (co Sm)

theorem rd_only14 {X : Nat → Prop} {w w' : World} {A : Option Addr} {l : List Nat} (h : Rd w A l) (ho : Only X w w') (hne : ∀ b o, A = some ⟨b, o, none⟩ → 0 < l.length → ¬ X b) : Rd w' A l :=
  ⟨h.1, fun i hi => by
    obtain ⟨b, o, e, hc⟩ := h.2 i hi
    exact ⟨b, o, e, ho.cell hc (hne b o e (by omega))⟩⟩
theorem Mine.only {X : Nat → Prop} {w w' : World} {base : Nat} {v : Value} {l : List Nat} (h : Mine w base v l) (ho : Only X w w') (hne : ∀ q, v.ownBlock = some q → ¬ X q) : Mine w' base v l :=
  ⟨h.1, h.2.imp id (fun ⟨g, cap, cur, e, hb, hg, r⟩ => ⟨g, cap, cur, e, hb, ho.row hg (hne g (by rw [e]; rfl)), r⟩)⟩
theorem sm_put {l : List Nat} (h : Sm l) {x : Nat} (hx : x < 256) (i : Nat) : Sm (l.set i x) := fun j => by
  unfold co
  by_cases hij : i = j
  · subst hij
    by_cases hi : i < l.length
    · rw [List.getElem?_set_self hi]
      exact hx
    · rw [List.getElem?_eq_none (by simp; omega)]
      decide
  · rw [List.getElem?_set_ne hij]
    exact h j
end Go.Proofs.YtjifionpblpfoaaDoor

/-
  Appends of bytes to slices without room. Conditions: lengths up to 2^40.
-/
namespace Go.Proofs.YtjifionpblpfoaaDoor
open Go.RowKit
open Pol (co Sm)

set_option maxRecDepth 100000 in
/-- An append to a slice without room. -/
theorem run_append_full9 (w : World) (ty : TypeId) (b o n c : Nat) (l m : List Nat) (hn : l.length = n) (hr : Rd w (some ⟨b, o, none⟩) l) (a : Addr) (hm : Rd w (some a) m) (h0 : 0 < m.length) (hlen : l.length + m.length ≤ 1099511627776) :
    ∃ v' w', (Builtin.append_ #[23, 23] ty #[.slice (some ⟨b, o, none⟩) n n, .slice (some a) m.length c]).run Tryd.prog w = .ok v' w' ∧ Mine w' w.heap.size v' (l ++ m) ∧ Ext w w' := by
  subst hn
  obtain ⟨i0, hi, hz0, hz1, hz2⟩ := info_parts u8_info
  have hcells : ∀ (L : List Nat) (A : Addr), Rd w (some A) L → ∀ j u, (bv L)[j]? = some u → w.cell? (A.add j) = some u := fun L A h j u hu => by
    have hj : j < L.length := by
      have := (List.getElem?_eq_some_iff.1 hu).1
      rwa [bv_len] at this
    obtain ⟨b, o, e, hc⟩ := h.2 j hj
    injection e with e
    subst e
    rw [addr_add, hc, ← bv_at L j hj, hu]
  obtain ⟨v', w', h1, h2, h3⟩ := run_append_arg_grows (P := Tryd.prog) w 23 ty 5 i0 (.int .u8 0) 1 1 Tryd.underlying23 hi hz0 hz1 hz2 rfl (by omega) ⟨b, o, none⟩ l.length l.length (bv l) (by rw [bv_len, Nat.mul_one]) (hcells l _ hr)
    a m.length c (bv m) (by rw [bv_len, Nat.mul_one]) (hcells m _ hm) (by omega) (by unfold maxLen; omega) (by omega)
  exact ⟨v', w', h1, by unfold Mine; rw [List.length_append, bv_append]; exact h2, (Ext.refl w).more h3 (fun k e => by cases e)⟩
theorem wpList_append_full9 {ops : Array Oper} {rest : List Oper} {op : Oper} {a : Act} {w : World} {Q : Exit → Act → World → Prop} (hgd : op.guard = none) (s x : Operand)
    (ho : op.op = .call { callee := .builtin .append, args := #[s, x], argTypes := #[23, 23] })
    (b o n : Nat) (l m : List Nat) (hs : a.eval s = .slice (some ⟨b, o, none⟩) n n) (hn : l.length = n) (hr : Rd w (some ⟨b, o, none⟩) l) (A : Addr) (c k : Nat) (hx : a.eval x = .slice (some A) k c) (hk : m.length = k) (hm : Rd w (some A) m) (h0 : 0 < m.length)
    (hlen : l.length + m.length ≤ 1099511627776)
    (h : ∀ v' w', Mine w' w.heap.size v' (l ++ m) → Ext w w' → wpList Tryd.prog ops Q rest (a.put op.dst v') w') : wpList Tryd.prog ops Q (op :: rest) a w := by
  subst hk
  refine wpList_plain hgd fun K hK => ?_
  obtain ⟨v', w', hrun, h2, h3⟩ := run_append_full9 w op.type b o n c l m hn hr A hm h0 hlen
  unfold Oper.wp execOp
  simp only [ho, resolve, invoke, builtin, Sem.run_bind, Sem.run_pure, Result.andThen_ok, List.map_toArray, List.map_cons, List.map_nil, hs, hx, hrun]
  exact hK _ _ (h v' w' h2 h3)
set_option maxRecDepth 100000 in
/-- An append to a literal of no bytes: what was there stays. -/
theorem run_append_new (w : World) (base : Nat) (ty : TypeId) (g : Nat) (m : List Nat) (hown : Mine w base (.slice (some ⟨g, 0, none⟩) 0 0) []) (A : Option Addr) (c : Nat) (hr : Rd w A m) (hlen : m.length ≤ 1099511627776) (hbase : base ≤ w.heap.size) :
    ∃ v' w', (Builtin.append_ #[23, 23] ty #[.slice (some ⟨g, 0, none⟩) 0 0, .slice A m.length c]).run Tryd.prog w = .ok v' w' ∧ Mine w' base v' m ∧ Ext w w' ∧ ∀ q, v'.ownBlock = some q → q = g ∨ w.heap.size ≤ q := by
  rcases Nat.eq_zero_or_pos m.length with h0 | h0
  · have : m = [] := List.eq_nil_of_length_eq_zero h0
    subst this
    obtain ⟨i0, hi, hz0, hz1, hz2⟩ := info_parts u8_info
    refine ⟨_, w, ?_, hown, Ext.refl _, fun q hq => .inl (by injection hq with hq; exact hq.symm)⟩
    cases A <;> simp [Builtin.append_, run_underlying Tryd.underlying23, sizeOf, typeInfo, hi, Builtin.lenOf, Builtin.firstCells, storeCells, loadCells, loadCellsFrom]
  · obtain ⟨b, o, rfl, _⟩ := hr.addr h0
    obtain ⟨v', w', h1, h2, h3⟩ := run_append_full9 w ty g 0 0 c [] m rfl (Rd.nil _ _) ⟨b, o, none⟩ hr h0 (by simpa using hlen)
    exact ⟨v', w', h1, (by simpa using h2.down hbase), h3, fun q hq => .inr (h2.block q hq).1⟩
theorem wpList_append_new {ops : Array Oper} {rest : List Oper} {op : Oper} {a : Act} {w : World} {Q : Exit → Act → World → Prop} (hgd : op.guard = none) (s x : Operand)
    (ho : op.op = .call { callee := .builtin .append, args := #[s, x], argTypes := #[23, 23] })
    (base g : Nat) (m : List Nat) (hs : a.eval s = .slice (some ⟨g, 0, none⟩) 0 0) (hown : Mine w base (.slice (some ⟨g, 0, none⟩) 0 0) []) (A : Option Addr) (n c : Nat) (hx : a.eval x = .slice A n c) (hn : m.length = n) (hr : Rd w A m)
    (hlen : m.length ≤ 1099511627776) (hbase : base ≤ w.heap.size)
    (h : ∀ v' w', Mine w' base v' m → Ext w w' → (∀ q, v'.ownBlock = some q → q = g ∨ w.heap.size ≤ q) → wpList Tryd.prog ops Q rest (a.put op.dst v') w') : wpList Tryd.prog ops Q (op :: rest) a w := by
  subst hn
  refine wpList_plain hgd fun K hK => ?_
  obtain ⟨v', w', hrun, h2, h3, h4⟩ := run_append_new w base op.type g m hown A c hr hlen hbase
  unfold Oper.wp execOp
  simp only [ho, resolve, invoke, builtin, Sem.run_bind, Sem.run_pure, Result.andThen_ok, List.map_toArray, List.map_cons, List.map_nil, hs, hx, hrun]
  exact hK _ _ (h v' w' h2 h3 h4)
end Go.Proofs.YtjifionpblpfoaaDoor

/-
  CRC-32 in plain numbers, bit by bit; that it is linear; that some bits turned within thirty-two change it. Frames. Conditions: none; no function is named here.
-/
namespace Go.Proofs.YtjifionpblpfoaaDoor
open Go.RowKit
open Pol (co Sm)

/-- One bit of CRC-32. -/
def crz (c : Nat) : Nat := if c % 2 = 0 then c / 2 else (c / 2) ^^^ 3988292384
def czn : Nat → Nat → Nat
  | 0, c => c
  | k + 1, c => czn k (crz c)
theorem xor_half (a b : Nat) : (a ^^^ b) / 2 = a / 2 ^^^ b / 2 := by
  have := Nat.xor_div_two_pow (a := a) (b := b) (n := 1)
  simpa using this
theorem xor_two (a b : Nat) : (a ^^^ b) % 2 = (a + b) % 2 := by
  have h := @Nat.xor_mod_two_eq_one a b
  by_cases h1 : a % 2 = 1 <;> by_cases h2 : b % 2 = 1 <;> by_cases h3 : (a ^^^ b) % 2 = 1 <;> simp only [h1, h2, h3, iff_true, iff_false, not_true_eq_false, not_false_eq_true] at h <;> omega
theorem xor_left (a b c : Nat) : a ^^^ (b ^^^ c) = b ^^^ (a ^^^ c) := by rw [← Nat.xor_assoc, Nat.xor_comm a, Nat.xor_assoc]
theorem crz_lin (a b : Nat) : crz (a ^^^ b) = crz a ^^^ crz b := by
  unfold crz
  rw [xor_half, xor_two]
  rcases Nat.mod_two_eq_zero_or_one a with h | h <;> rcases Nat.mod_two_eq_zero_or_one b with h' | h'
  · rw [if_pos (by omega), if_pos h, if_pos h']
  · rw [if_neg (by omega), if_pos h, if_neg (by omega), Nat.xor_assoc]
  · rw [if_neg (by omega), if_neg (by omega), if_pos h', Nat.xor_assoc, Nat.xor_assoc, Nat.xor_comm 3988292384]
  · rw [if_pos (by omega), if_neg (by omega), if_neg (by omega)]
    rw [Nat.xor_assoc, Nat.xor_comm (b / 2), ← Nat.xor_assoc 3988292384, Nat.xor_self, Nat.zero_xor]
theorem crz_lt {c : Nat} (h : c < 2 ^ 32) : crz c < 2 ^ 32 := by
  unfold crz
  split
  · omega
  · exact Nat.xor_lt_two_pow (by omega) (by decide)
theorem crz_ne {c : Nat} (h : c < 2 ^ 32) (h0 : c ≠ 0) : crz c ≠ 0 := by
  unfold crz
  split
  · omega
  · intro e
    have e2 : c / 2 = 3988292384 := by
      have := congrArg (· ^^^ 3988292384) e
      simpa [Nat.xor_assoc] using this
    omega
theorem crz_even (m : Nat) : crz (2 * m) = m := by
  unfold crz
  rw [if_pos (by omega)]
  omega
theorem czn_lin : ∀ (k a b : Nat), czn k (a ^^^ b) = czn k a ^^^ czn k b
  | 0, _, _ => rfl
  | k + 1, a, b => by rw [czn, czn, czn, crz_lin, czn_lin k]
theorem czn_lt : ∀ (k : Nat) {c : Nat}, c < 2 ^ 32 → czn k c < 2 ^ 32
  | 0, _, h => h
  | k + 1, _, h => czn_lt k (crz_lt h)
theorem czn_ne : ∀ (k : Nat) {c : Nat}, c < 2 ^ 32 → c ≠ 0 → czn k c ≠ 0
  | 0, _, _, h => h
  | k + 1, _, h, h0 => czn_ne k (crz_lt h) (crz_ne h h0)
theorem czn_zero : ∀ k, czn k 0 = 0
  | 0 => rfl
  | k + 1 => czn_zero k
theorem czn_add : ∀ (i j c : Nat), czn (i + j) c = czn j (czn i c)
  | 0, j, c => by rw [Nat.zero_add]; rfl
  | i + 1, j, c => by rw [Nat.succ_add, czn, czn, czn_add i]
theorem czn_succ (k c : Nat) : czn (k + 1) c = crz (czn k c) := by rw [czn_add k 1]; rfl
theorem czn_pow : ∀ (k m : Nat), czn k (2 ^ k * m) = m
  | 0, m => by rw [Nat.pow_zero, Nat.one_mul]; rfl
  | k + 1, m => by rw [Nat.pow_succ, czn, Nat.mul_comm _ 2, Nat.mul_assoc, crz_even, czn_pow k]
/-- One more bit of a byte. -/
theorem add_xor (k a r : Nat) (h : r < 2 ^ k) : 2 ^ k * a + r = 2 ^ k * a ^^^ r := by
  apply Nat.eq_of_testBit_eq
  intro j
  rw [Nat.testBit_two_pow_mul_add a h, Nat.testBit_xor, Nat.testBit_two_pow_mul]
  by_cases hj : j < k
  · rw [if_pos hj]; simp [Nat.not_le.2 hj]
  · rw [if_neg hj, Nat.testBit_lt_two_pow (Nat.lt_of_lt_of_le h (Nat.pow_le_pow_right (by omega) (Nat.not_lt.1 hj)))]; simp [Nat.not_lt.1 hj]
theorem mod_step (b k : Nat) : b % 2 ^ (k + 1) = (b % 2 ^ k) ^^^ (2 ^ k * (b / 2 ^ k % 2)) := by
  rw [Nat.pow_succ, Nat.mod_mul, Nat.xor_comm, ← add_xor _ _ _ (Nat.mod_lt _ (Nat.two_pow_pos k)), Nat.add_comm]
/-- The state behind k bits of a byte. -/
def crk (c b : Nat) : Nat → Nat
  | 0 => c
  | k + 1 => crz (crk c b k ^^^ (b / 2 ^ k % 2))
theorem crk_eq (c b : Nat) : ∀ k, crk c b k = czn k (c ^^^ b % 2 ^ k)
  | 0 => by rw [Nat.pow_zero, Nat.mod_one, Nat.xor_zero]; rfl
  | k + 1 => by
    rw [crk, crk_eq c b k, czn_succ, mod_step, ← Nat.xor_assoc, czn_lin k (c ^^^ b % 2 ^ k) (2 ^ k * _), czn_pow]
/-- By a table of two hundred and fifty-six. -/
theorem czn_table (c b : Nat) (hb : b < 256) : czn 8 (c ^^^ b) = czn 8 ((c ^^^ b) % 256) ^^^ (c / 256) := by
  have h1 : (c ^^^ b) / 256 = c / 256 := by
    have h := Nat.xor_div_two_pow (a := c) (b := b) (n := 8)
    rw [show (2 : Nat) ^ 8 = 256 from rfl, show b / 256 = 0 by omega, Nat.xor_zero] at h
    exact h
  have h2 : c ^^^ b = 2 ^ 8 * ((c ^^^ b) / 256) ^^^ (c ^^^ b) % 256 := by
    rw [← add_xor 8 _ _ (Nat.mod_lt _ (by decide)), show (2 : Nat) ^ 8 = 256 from rfl]
    omega
  conv => lhs; rw [h2]
  rw [czn_lin, czn_pow, h1, Nat.xor_comm]
/-- The state behind n bytes. -/
def crf (c : Nat) (f : Nat → Nat) : Nat → Nat
  | 0 => c
  | n + 1 => czn 8 (crf c f n ^^^ f n)
theorem crf_congr {c : Nat} {f g : Nat → Nat} : ∀ n, (∀ i, i < n → f i = g i) → crf c f n = crf c g n
  | 0, _ => rfl
  | n + 1, h => by rw [crf, crf, crf_congr n (fun i hi => h i (by omega)), h n (by omega)]
theorem crf_lin (c d : Nat) (f g : Nat → Nat) : ∀ n, crf (c ^^^ d) (fun i => f i ^^^ g i) n = crf c f n ^^^ crf d g n
  | 0 => rfl
  | n + 1 => by
    rw [crf, crf, crf, crf_lin c d f g n, ← czn_lin]
    congr 1
    rw [Nat.xor_assoc, Nat.xor_assoc, xor_left (crf d g n)]
theorem crf_lt {c : Nat} {f : Nat → Nat} (h : c < 2 ^ 32) (hf : ∀ i, f i < 256) : ∀ n, crf c f n < 2 ^ 32
  | 0 => h
  | n + 1 => czn_lt 8 (Nat.xor_lt_two_pow (crf_lt h hf n) (Nat.lt_of_lt_of_le (hf n) (by decide)))
theorem crf_add (c : Nat) (f : Nat → Nat) (m : Nat) : ∀ n, crf c f (m + n) = crf (crf c f m) (fun i => f (m + i)) n
  | 0 => rfl
  | n + 1 => by rw [← Nat.add_assoc, crf, crf, crf_add c f m n]
theorem crf_zeros (c : Nat) : ∀ n, crf c (fun _ => 0) n = czn (8 * n) c
  | 0 => rfl
  | n + 1 => by rw [crf, crf_zeros c n, Nat.xor_zero, Nat.mul_succ, czn_add]
/-- One bit alone, at place k of n bytes. -/
theorem crf_one (n k : Nat) (hk : k < 8 * n) : crf 0 (fun i => if i = k / 8 then 2 ^ (k % 8) else 0) n = czn (8 * n - k) 1 := by
  obtain ⟨r, hr⟩ : ∃ r, n = k / 8 + (1 + r) := ⟨n - k / 8 - 1, by omega⟩
  have h0 : crf 0 (fun i => if i = k / 8 then 2 ^ (k % 8) else 0) (k / 8) = 0 := by
    rw [crf_congr (g := fun _ => 0) (k / 8) (fun i hi => if_neg (by omega)), crf_zeros, czn_zero]
  have h2 : ∀ c, crf c (fun i => (if k / 8 + (1 + i) = k / 8 then 2 ^ (k % 8) else 0)) r = czn (8 * r) c := fun c => by
    rw [crf_congr (g := fun _ => 0) r (fun i hi => if_neg (by omega)), crf_zeros]
  rw [hr, crf_add, h0, crf_add]
  have h1 : crf 0 (fun i => if k / 8 + i = k / 8 then 2 ^ (k % 8) else 0) 1 = czn (8 - k % 8) 1 := by
    rw [crf, crf, if_pos (by omega), Nat.zero_xor]
    have e : 8 = k % 8 + (8 - k % 8) := by omega
    rw [show czn 8 (2 ^ (k % 8)) = czn (k % 8 + (8 - k % 8)) (2 ^ (k % 8) * 1) from by rw [← e, Nat.mul_one], czn_add, czn_pow]
  rw [h1, h2, ← czn_add]
  congr 1
  omega
/-- Some of thirty-two bits side by side, from place s on. -/
def dm (s v : Nat) : Nat → Nat → Nat
  | 0, _ => 0
  | i + 1, j => dm s v i j ^^^ (if v / 2 ^ i % 2 = 1 ∧ j = (s + i) / 8 then 2 ^ ((s + i) % 8) else 0)
theorem crf_dm (s v n : Nat) : ∀ i, s + i ≤ 8 * n → crf 0 (dm s v i) n = czn (8 * n - s) (v % 2 ^ i)
  | 0, _ => by
    rw [show dm s v 0 = (fun _ => 0) from rfl, crf_zeros, czn_zero, Nat.pow_zero, Nat.mod_one, czn_zero]
  | i + 1, h => by
    have e := crf_lin 0 0 (dm s v i) (fun j => if v / 2 ^ i % 2 = 1 ∧ j = (s + i) / 8 then 2 ^ ((s + i) % 8) else 0) n
    rw [Nat.xor_self] at e
    rw [show dm s v (i + 1) = (fun j => dm s v i j ^^^ (if v / 2 ^ i % 2 = 1 ∧ j = (s + i) / 8 then 2 ^ ((s + i) % 8) else 0)) from rfl, e, crf_dm s v n i (by omega), mod_step, czn_lin]
    congr 1
    rcases Nat.mod_two_eq_zero_or_one (v / 2 ^ i) with hb | hb
    · rw [hb, Nat.mul_zero, czn_zero, crf_congr (g := fun _ => 0) _ (fun _ _ => if_neg (by omega)), crf_zeros, czn_zero]
    · rw [hb, crf_congr (g := fun j => if j = (s + i) / 8 then 2 ^ ((s + i) % 8) else 0) _ (fun j _ => by by_cases hj : j = (s + i) / 8 <;> simp [hj]), crf_one n (s + i) (by omega)]
      rw [show 8 * n - s = i + (8 * n - (s + i)) by omega, czn_add, czn_pow]
theorem crf_burst (s v n : Nat) (hv : v < 2 ^ 32) (h0 : v ≠ 0) (h : s + 32 ≤ 8 * n) : crf 0 (dm s v 32) n ≠ 0 := by
  rw [crf_dm s v n 32 h, Nat.mod_eq_of_lt hv]
  exact czn_ne _ hv h0

/-! ### The checksum of bytes, and frames -/
def crcl (l : List Nat) : Nat := crf 4294967295 (co l) l.length ^^^ 4294967295
theorem crcl_lt {l : List Nat} (h : Sm l) : crcl l < 4294967296 := Nat.xor_lt_two_pow (n := 32) (crf_lt (by decide) h _) (by decide)
def cbs (c : Nat) : List Nat := [c / 16777216, c / 65536 % 256, c / 256 % 256, c % 256]
theorem cbs_inj {c d : Nat} (h : cbs c = cbs d) : c = d := by
  unfold cbs at h
  simp only [List.cons.injEq] at h
  omega
theorem cbs_sm {c : Nat} (h : c < 4294967296) : Sm (cbs c) := Sm.cons (by omega) (Sm.cons (by omega) (Sm.cons (by omega) (Sm.cons (by omega) Sm.nil)))
theorem cbs_len (c : Nat) : (cbs c).length = 4 := rfl
/-- A frame; what is read of bytes as one. -/
def fr (t : List Nat) : List Nat := t.length / 256 :: t.length % 256 :: (cbs (crcl t) ++ t)
theorem fr_len (t : List Nat) : (fr t).length = 6 + t.length := by
  unfold fr
  simp only [List.length_cons, List.length_append, cbs_len]
  omega
def FrOk (t : List Nat) : Prop := 1 ≤ t.length ∧ t.length ≤ 1000
def nx (b : List Nat) : Rs (List Nat) :=
  if b.length < 2 then .er 2
  else if co b 0 * 256 + co b 1 < 1 ∨ 1000 < co b 0 * 256 + co b 1 then .er 14
  else if b.length < 6 + (co b 0 * 256 + co b 1) then .er 2
  else if (b.drop 2).take 4 = cbs (crcl ((b.drop 6).take (co b 0 * 256 + co b 1))) then .ok ((b.drop 6).take (co b 0 * 256 + co b 1)) (b.drop (6 + (co b 0 * 256 + co b 1)))
  else .er 4
theorem co_hd (a : Nat) (l : List Nat) : co (a :: l) 0 = a := rfl
theorem co_tl (a b : Nat) (l : List Nat) : co (a :: b :: l) 1 = b := rfl
theorem len_two (n : Nat) : n / 256 * 256 + n % 256 = n := by omega
theorem nx_parts (a b : Nat) (s t r : List Nat) (hs : s.length = 4) (hn : a * 256 + b = t.length) (ht : FrOk t) : nx (a :: b :: (s ++ (t ++ r))) = if s = cbs (crcl t) then .ok t r else .er 4 := by
  have e1 : (a :: b :: (s ++ (t ++ r))).drop 2 = s ++ (t ++ r) := rfl
  have e2 : (a :: b :: (s ++ (t ++ r))).drop 6 = t ++ r := by
    show (s ++ (t ++ r)).drop 4 = _
    rw [← hs, List.drop_left]
  have e3 : (a :: b :: (s ++ (t ++ r))).drop (6 + t.length) = r := by rw [← List.drop_drop, e2, List.drop_left]
  have e4 : (s ++ (t ++ r)).take 4 = s := by rw [← hs, List.take_left]
  unfold nx
  rw [co_hd, co_tl, hn, if_neg (by simp), if_neg (by unfold FrOk at ht; omega), if_neg (by simp [hs]; omega), e1, e2, e3, e4, List.take_left]
theorem nx_fr (t r : List Nat) (ht : FrOk t) : nx (fr t ++ r) = .ok t r := by
  have h := nx_parts (t.length / 256) (t.length % 256) (cbs (crcl t)) t r (cbs_len _) (len_two _) ht
  rw [if_pos rfl] at h
  rw [← h]
  unfold fr
  simp only [List.cons_append, List.append_assoc]
theorem nx_bad (t u : List Nat) (ht : FrOk t) (hl : u.length = t.length) (hc : crcl u ≠ crcl t) : nx ((fr t).take 6 ++ u) = .er 4 := by
  have h := nx_parts (t.length / 256) (t.length % 256) (cbs (crcl t)) u [] (cbs_len _) ((len_two _).trans hl.symm) (by unfold FrOk at *; omega)
  rw [if_neg (fun e => hc (cbs_inj e).symm), List.append_nil] at h
  rw [← h]
  have e : (fr t).take 6 = t.length / 256 :: t.length % 256 :: cbs (crcl t) := by
    unfold fr
    show t.length / 256 :: t.length % 256 :: (cbs (crcl t) ++ t).take 4 = _
    rw [show (cbs (crcl t) ++ t).take 4 = cbs (crcl t) from by rw [← cbs_len (crcl t), List.take_left]]
  rw [e]
  rfl
theorem nx_cut (t : List Nat) (k : Nat) (ht : FrOk t) (hk : k < (fr t).length) : nx ((fr t).take k) = .er 2 := by
  have hl : ((fr t).take k).length = k := by rw [List.length_take]; omega
  rw [fr_len] at hk
  unfold nx
  rw [hl]
  by_cases h2 : k < 2
  · rw [if_pos h2]
  · have e0 : co ((fr t).take k) 0 = t.length / 256 := by
      unfold co; rw [List.getElem?_take, if_pos (by omega)]; rfl
    have e1 : co ((fr t).take k) 1 = t.length % 256 := by
      unfold co; rw [List.getElem?_take, if_pos (by omega)]; rfl
    rw [if_neg h2, e0, e1, len_two, if_neg (by unfold FrOk at ht; omega), if_pos hk]
theorem nx_ok {b t r : List Nat} (hs : Sm b) (h : nx b = .ok t r) : b = fr t ++ r ∧ FrOk t := by
  match b, hs, h with
  | [], _, h => exact absurd h (by unfold nx; simp)
  | [_], _, h => exact absurd h (by unfold nx; simp)
  | x :: y :: l, hs, h =>
    unfold nx at h
    rw [co_hd, co_tl] at h
    generalize hn : x * 256 + y = n at h
    split at h
    · cases h
    · split at h
      · cases h
      · split at h
        · cases h
        · split at h
          · rename_i h1 h2 h3 h4
            injection h with ht hr
            have hx : x < 256 := sm_head hs
            have hy : y < 256 := sm_head (sm_tail hs)
            have hll : n + 4 ≤ l.length := by simp only [List.length_cons] at h3; omega
            have d6 : (x :: y :: l).drop 6 = l.drop 4 := rfl
            have d2 : (x :: y :: l).drop 2 = l := rfl
            have htl : t.length = n := by rw [← ht, d6, List.length_take, List.length_drop]; omega
            refine ⟨?_, by unfold FrOk; omega⟩
            rw [ht, d2] at h4
            have hr' : r = (l.drop 4).drop n := by rw [← hr, ← List.drop_drop, d6]
            have ht' : t = (l.drop 4).take n := by rw [← ht, d6]
            unfold fr
            rw [htl, show n / 256 = x by omega, show n % 256 = y by omega]
            simp only [List.cons_append, List.append_assoc]
            rw [← h4, hr']
            conv => rhs; rw [show t ++ (l.drop 4).drop n = l.drop 4 from by rw [ht', List.take_append_drop]]
            rw [List.take_append_drop]
          · cases h
theorem nx_less {b t r : List Nat} (h : nx b = .ok t r) : r.length < b.length := by
  unfold nx at h
  split at h
  · cases h
  · split at h
    · cases h
    · split at h
      · cases h
      · split at h
        · injection h with _ hr
          rw [← hr, List.length_drop]
          omega
        · cases h
theorem nx_er {b : List Nat} {e : Nat} (h : nx b = .er e) : 0 < e ∧ e < 17 := by
  unfold nx at h
  repeat' split at h
  all_goals first | (injection h with h; omega) | cases h
/-- All frames that are whole, and how many bytes they take. -/
def al (b : List Nat) : List (List Nat) × Nat :=
  match h : nx b with
  | .ok t r => (t :: (al r).1, 6 + t.length + (al r).2)
  | .er _ => ([], 0)
termination_by b.length
decreasing_by all_goals exact nx_less h
theorem al_ok {b t r : List Nat} (h : nx b = .ok t r) : al b = (t :: (al r).1, 6 + t.length + (al r).2) := by
  rw [al]
  split
  · rename_i t' r' h'
    rw [h] at h'
    injection h' with e1 e2
    subst e1; subst e2
    rfl
  · rename_i e h'
    rw [h] at h'
    cases h'
theorem al_er {b : List Nat} {e : Nat} (h : nx b = .er e) : al b = ([], 0) := by
  rw [al]
  split
  · rename_i t' r' h'
    rw [h] at h'
    cases h'
  · rfl
/-- Frames one behind the other. -/
def fl (ls : List (List Nat)) : List Nat := (ls.map fr).flatten
theorem fl_cons (t : List Nat) (ls : List (List Nat)) : fl (t :: ls) = fr t ++ fl ls := rfl
theorem fl_app (a b : List (List Nat)) : fl (a ++ b) = fl a ++ fl b := by unfold fl; rw [List.map_append, List.flatten_append]
theorem al_flat (b : List Nat) (hs : Sm b) : fl (al b).1 = b.take (al b).2 ∧ (al b).2 ≤ b.length ∧ (∀ t ∈ (al b).1, FrOk t ∧ Sm t) := by
  induction hn : b.length using Nat.strongRecOn generalizing b with
  | _ n ih =>
    subst hn
    cases h : nx b with
    | er e =>
      rw [al_er h]
      exact ⟨by rw [List.take_zero]; rfl, Nat.zero_le _, fun t ht => by cases ht⟩
    | ok t r =>
      obtain ⟨hb, ht⟩ := nx_ok hs h
      have hsp : Sm (fr t) ∧ Sm r := by
        rw [hb] at hs
        exact ⟨Pol.co_lt_of fun z hz => hs.mem z (List.mem_append.2 (.inl hz)), Pol.co_lt_of fun z hz => hs.mem z (List.mem_append.2 (.inr hz))⟩
      obtain ⟨i1, i2, i3⟩ := ih r.length (nx_less h) r hsp.2 rfl
      rw [al_ok h]
      refine ⟨?_, ?_, ?_⟩
      · rw [fl_cons, i1, hb, ← fr_len, List.take_length_add_append]
      · rw [hb, List.length_append, fr_len]
        show 6 + t.length + (al r).2 ≤ _
        omega
      · intro u hu
        rcases List.mem_cons.1 hu with rfl | hu
        · refine ⟨ht, Pol.co_lt_of fun z hz => hsp.1.mem z ?_⟩
          unfold fr
          simp [hz]
        · exact i3 u hu
theorem al_frames (r : List Nat) (e : Nat) (he : nx r = .er e) : ∀ ls : List (List Nat), (∀ t ∈ ls, FrOk t) → al (fl ls ++ r) = (ls, (fl ls).length)
  | [], _ => by
    show al r = _
    rw [al_er he]
    rfl
  | t :: ls, h => by
    have ih := al_frames r e he ls (fun u hu => h u (List.mem_cons.2 (.inr hu)))
    rw [fl_cons, List.append_assoc, al_ok (nx_fr t (fl ls ++ r) (h t (List.mem_cons.2 (.inl rfl)))), ih, List.length_append, fr_len]
theorem al_cut (ls : List (List Nat)) (hf : ∀ t ∈ ls, FrOk t) (k m : Nat) (h1 : (fl (ls.take m)).length ≤ k) (h2 : m < ls.length → k < (fl (ls.take (m + 1))).length) :
    al ((fl ls).take k) = (ls.take m, (fl (ls.take m)).length) := by
  have e : fl ls = fl (ls.take m) ++ fl (ls.drop m) := by rw [← fl_app, List.take_append_drop]
  obtain ⟨j, hj⟩ : ∃ j, k = (fl (ls.take m)).length + j := ⟨k - (fl (ls.take m)).length, by omega⟩
  rw [e, hj, List.take_length_add_append]
  refine al_frames _ 2 ?_ (ls.take m) (fun t ht => hf t (List.mem_of_mem_take ht))
  rcases Nat.lt_or_ge m ls.length with h | h
  · have hd : ls.drop m = ls[m] :: ls.drop (m + 1) := List.drop_eq_getElem_cons h
    have ht : ls.take (m + 1) = ls.take m ++ [ls[m]] := by rw [List.take_succ_eq_append_getElem h]
    have h3 := h2 h
    rw [ht, fl_app, List.length_append, hj] at h3
    have h4 : (fl [ls[m]]).length = (fr ls[m]).length := by unfold fl; simp
    rw [hd, fl_cons, List.take_append_of_le_length (by omega)]
    exact nx_cut _ j (hf _ (List.getElem_mem h)) (by omega)
  · rw [List.drop_eq_nil_of_le h]
    show nx (([] : List Nat).take j) = _
    rw [List.take_nil]
    unfold nx
    simp
end Go.Proofs.YtjifionpblpfoaaDoor

/-
  A journal in plain lists: what a crash leaves; that the frames behind a crash are the first ones. Conditions: none; no function is named here.
-/
namespace Go.Proofs.YtjifionpblpfoaaDoor
open Go.RowKit
open Pol (co Sm)

theorem co12_left (a b : List Nat) (i : Nat) (h : i < a.length) : co (a ++ b) i = co a i := by unfold co; rw [List.getElem?_append_left h]
theorem co12_right (a b : List Nat) (i : Nat) (h : a.length ≤ i) : co (a ++ b) i = co b (i - a.length) := by unfold co; rw [List.getElem?_append_right h]
theorem co12_take (l : List Nat) (n i : Nat) (h : i < n) : co (l.take n) i = co l i := by unfold co; rw [List.getElem?_take, if_pos h]
theorem take12_succ (l : List Nat) (n : Nat) (h : n < l.length) : l.take (n + 1) = l.take n ++ [co l n] := by
  rw [List.take_succ_eq_append_getElem h]
  congr 2
  unfold co
  rw [List.getElem?_eq_getElem h]
  rfl
theorem sm12_app {a b : List Nat} (ha : Sm a) (hb : Sm b) : Sm (a ++ b) := Pol.co_lt_of fun z hz => by
  rcases List.mem_append.1 hz with h | h
  · exact ha.mem z h
  · exact hb.mem z h
theorem sm12_take {l : List Nat} (h : Sm l) (n : Nat) : Sm (l.take n) := Pol.co_lt_of fun x hx => h.mem x (List.mem_of_mem_take hx)

/-- The checksum sees the last byte. -/
theorem crc12_last (u : List Nat) (x y : Nat) (hx : x < 256) (hy : y < 256) (hne : x ≠ y) : crcl (u ++ [x]) ≠ crcl (u ++ [y]) := by
  have key : ∀ z, crf 4294967295 (co (u ++ [z])) (u ++ [z]).length = czn 8 (crf 4294967295 (co u) u.length ^^^ z) := fun z => by
    rw [List.length_append, List.length_singleton, crf, crf_congr (g := co u) u.length (fun i hi => co12_left u [z] i hi), co12_right u [z] _ (Nat.le_refl _), Nat.sub_self]
    rfl
  intro e
  unfold crcl at e
  rw [key, key] at e
  have e2 := congrArg (· ^^^ 4294967295) e
  simp only [Nat.xor_assoc, Nat.xor_self, Nat.xor_zero] at e2
  have e3 : czn 8 ((crf 4294967295 (co u) u.length ^^^ x) ^^^ (crf 4294967295 (co u) u.length ^^^ y)) = 0 := by rw [czn_lin, e2, Nat.xor_self]
  have e4 : (crf 4294967295 (co u) u.length ^^^ x) ^^^ (crf 4294967295 (co u) u.length ^^^ y) = x ^^^ y := by
    rw [Nat.xor_assoc, xor_left x, ← Nat.xor_assoc, Nat.xor_self, Nat.zero_xor]
  rw [e4] at e3
  refine czn_ne 8 (Nat.xor_lt_two_pow (n := 32) (by omega) (by omega)) ?_ e3
  intro h0
  apply hne
  have := congrArg (· ^^^ y) h0
  simpa [Nat.xor_assoc] using this

/-- The first n of some bytes, the last one of them torn. -/
def crs (l : List Nat) (n t : Nat) : List Nat := if n = 0 then [] else l.take (n - 1) ++ [co l (n - 1) ^^^ t]
theorem crs_none (l : List Nat) (t : Nat) : crs l 0 t = [] := rfl
theorem crs_some (l : List Nat) (n t : Nat) : crs l (n + 1) t = l.take n ++ [co l n ^^^ t] := by unfold crs; rw [if_neg (by omega), Nat.add_sub_cancel]
theorem crs_len (l : List Nat) (n t : Nat) (h : n ≤ l.length) : (crs l n t).length = n := by
  cases n with
  | zero => rfl
  | succ n => rw [crs_some, List.length_append, List.length_take, List.length_singleton]; omega
theorem crs_zero (l : List Nat) (n : Nat) (h : n ≤ l.length) : crs l n 0 = l.take n := by
  cases n with
  | zero => rw [crs_none, List.take_zero]
  | succ n => rw [crs_some, Nat.xor_zero, take12_succ l n (by omega)]
theorem crs_sm {l : List Nat} (h : Sm l) (n : Nat) {t : Nat} (ht : t < 256) : Sm (crs l n t) := by
  cases n with
  | zero => exact Sm.nil
  | succ n => rw [crs_some]; exact sm12_app (sm12_take h n) (Sm.cons (Nat.xor_lt_two_pow (n := 8) (h n) ht) Sm.nil)
theorem crs_behind (a b : List Nat) (n t : Nat) (h : a.length < n) : crs (a ++ b) n t = a ++ crs b (n - a.length) t := by
  obtain ⟨m, rfl⟩ : ∃ m, n = a.length + (m + 1) := ⟨n - a.length - 1, by omega⟩
  rw [Nat.add_sub_cancel_left, ← Nat.add_assoc, crs_some, crs_some, List.take_length_add_append, co12_right a b _ (by omega), Nat.add_sub_cancel_left, List.append_assoc]
theorem crs_within (a b : List Nat) (n t : Nat) (h : n ≤ a.length) : crs (a ++ b) n t = crs a n t := by
  cases n with
  | zero => rfl
  | succ n => rw [crs_some, crs_some, List.take_append_of_le_length (by omega), co12_left a b n (by omega)]

/-- A frame that is not whole, with its last byte torn, is none; nor is a whole one that is torn. -/
theorem nx_short {b : List Nat} (h : ∀ n, 1 ≤ n → n ≤ 1000 → co b 0 * 256 + co b 1 = n → 2 ≤ b.length → b.length < 6 + n) : ∃ e, nx b = .er e := by
  unfold nx
  by_cases h2 : b.length < 2
  · exact ⟨2, if_pos h2⟩
  · rw [if_neg h2]
    by_cases h3 : co b 0 * 256 + co b 1 < 1 ∨ 1000 < co b 0 * 256 + co b 1
    · exact ⟨14, if_pos h3⟩
    · rw [if_neg h3, if_pos (h _ (by omega) (by omega) rfl (by omega))]
      exact ⟨2, rfl⟩
theorem fr_zero (t : List Nat) : co (fr t) 0 = t.length / 256 := rfl
theorem fr_one (t : List Nat) : co (fr t) 1 = t.length % 256 := rfl
theorem nx_crs_cut (t : List Nat) (n x : Nat) (hn : n < (fr t).length) : ∃ e, nx (crs (fr t) n x) = .er e := by
  have hl := crs_len (fr t) n x (by omega)
  rw [fr_len] at hn
  apply nx_short
  intro m h1 h2 hm h3
  rw [hl] at h3 ⊢
  by_cases h : n = 2
  · omega
  · obtain ⟨j, rfl⟩ : ∃ j, n = (j + 2) + 1 := ⟨n - 3, by omega⟩
    rw [crs_some] at hm
    have h4 : ((fr t).take (j + 2)).length = j + 2 := by rw [List.length_take, fr_len]; omega
    rw [co12_left _ _ 0 (by omega), co12_left _ _ 1 (by omega), co12_take _ _ 0 (by omega), co12_take _ _ 1 (by omega), fr_zero, fr_one, len_two] at hm
    omega
theorem nx_crs_torn (t : List Nat) (x : Nat) (ht : FrOk t) (hs : Sm t) (hx : x < 256) (h0 : x ≠ 0) : ∃ e, nx (crs (fr t) (fr t).length x) = .er e := by
  obtain ⟨u, y, rfl⟩ : ∃ u y, t = u ++ [y] := by
    have hne : t ≠ [] := by rintro rfl; unfold FrOk at ht; simp at ht
    exact ⟨t.dropLast, t.getLast hne, (List.dropLast_concat_getLast hne).symm⟩
  have hsu : Sm u ∧ y < 256 := ⟨Pol.co_lt_of fun z hz => hs.mem z (List.mem_append.2 (.inl hz)), hs.mem y (List.mem_append.2 (.inr (List.mem_singleton.2 rfl)))⟩
  have e6 : (fr (u ++ [y])).take 6 ++ (u ++ [y]) = fr (u ++ [y]) := by
    have h6 : (fr (u ++ [y])).drop 6 = u ++ [y] := by
      unfold fr
      show (cbs (crcl (u ++ [y])) ++ (u ++ [y])).drop 4 = _
      rw [← cbs_len (crcl (u ++ [y])), List.drop_left]
    conv => lhs; rhs; rw [← h6]
    exact List.take_append_drop 6 _
  have e7 : crs (fr (u ++ [y])) (fr (u ++ [y])).length x = (fr (u ++ [y])).take 6 ++ (u ++ [y ^^^ x]) := by
    generalize hp : (fr (u ++ [y])).take 6 = p at e6 ⊢
    rw [← e6]
    have hl : (p ++ (u ++ [y])).length = (p ++ u).length + 1 := by simp only [List.length_append, List.length_singleton]; omega
    rw [hl, ← List.append_assoc, crs_some, List.take_left, co12_right _ _ _ (Nat.le_refl _), Nat.sub_self, List.append_assoc]
    rfl
  have hyx : y ^^^ x ≠ y := fun e => h0 (by
    have := congrArg (y ^^^ ·) e
    simpa [← Nat.xor_assoc] using this)
  rw [e7]
  exact ⟨4, nx_bad (u ++ [y]) (u ++ [y ^^^ x]) ht (by simp) (crc12_last u (y ^^^ x) y (Nat.xor_lt_two_pow (n := 8) hsu.2 hx) hsu.2 hyx)⟩

/-- Frames ahead of whatever stay. -/
theorem al_app (x : List Nat) : ∀ ls : List (List Nat), (∀ t ∈ ls, FrOk t) → al (fl ls ++ x) = (ls ++ (al x).1, (fl ls).length + (al x).2)
  | [], _ => by
    show al x = _
    rw [List.nil_append, show (fl []).length = 0 from rfl, Nat.zero_add]
  | t :: ls, h => by
    rw [fl_cons, List.append_assoc, al_ok (nx_fr t (fl ls ++ x) (h t (List.mem_cons.2 (.inl rfl)))), al_app x ls (fun u hu => h u (List.mem_cons.2 (.inr hu))), List.length_append, fr_len]
    refine Prod.ext rfl ?_
    show _ + (_ + _) = _
    omega
theorem al_whole (ls : List (List Nat)) (h : ∀ t ∈ ls, FrOk t) : al (fl ls) = (ls, (fl ls).length) := by
  have h1 := al_frames [] 2 rfl ls h
  rwa [List.append_nil] at h1
/-- Of torn frames the first ones are left. -/
theorem al_torn (x : Nat) (hx : x < 256) : ∀ (ls : List (List Nat)) (n : Nat), (∀ t ∈ ls, FrOk t ∧ Sm t) → n ≤ (fl ls).length → ∃ m, m ≤ ls.length ∧ al (crs (fl ls) n x) = (ls.take m, (fl (ls.take m)).length)
  | [], n, _, hn => ⟨0, Nat.le_refl _, by
    obtain rfl : n = 0 := by simpa [fl] using hn
    rw [crs_none]
    exact al_er (e := 2) rfl⟩
  | t :: ls, n, h, hn => by
    have ht := h t (List.mem_cons.2 (.inl rfl))
    have none : (∃ e, nx (crs (fl (t :: ls)) n x) = .er e) → ∃ m, m ≤ (t :: ls).length ∧ al (crs (fl (t :: ls)) n x) = ((t :: ls).take m, (fl ((t :: ls).take m)).length) := fun ⟨e, he⟩ => ⟨0, Nat.zero_le _, al_er he⟩
    rw [fl_cons] at none hn ⊢
    rw [List.length_append] at hn
    rcases Nat.lt_or_ge (fr t).length n with hlt | hge
    · obtain ⟨m, hm, e⟩ := al_torn x hx ls (n - (fr t).length) (fun u hu => h u (List.mem_cons.2 (.inr hu))) (by omega)
      refine ⟨m + 1, by simp only [List.length_cons]; omega, ?_⟩
      rw [crs_behind _ _ _ _ hlt, al_ok (nx_fr t _ ht.1), e, List.take_succ_cons, fl_cons, List.length_append, fr_len]
    · rw [crs_within _ _ _ _ hge] at none ⊢
      rcases Nat.lt_or_ge n (fr t).length with hlt | hge2
      · exact none (nx_crs_cut t n x hlt)
      · obtain rfl : n = (fr t).length := by omega
        by_cases h0 : x = 0
        · refine ⟨1, by simp, ?_⟩
          have e1 := al_whole [t] (fun u hu => by rw [List.mem_singleton.1 hu]; exact ht.1)
          have e2 : fl [t] = fr t := by unfold fl; simp
          rw [e2] at e1
          rw [h0, crs_zero _ _ (Nat.le_refl _), List.take_length, e1, List.take_succ_cons, List.take_zero, e2]
        · exact none (nx_crs_torn t x ht.1 ht.2 hx h0)

/-- What is kept of so many loose bytes. -/
def kept (k : Int) (n : Nat) : Nat := if k ≤ 0 then 0 else min k.toNat n
theorem kept_le (k : Int) (n : Nat) : kept k n ≤ n := by
  unfold kept
  split <;> omega
/-- A crash of a disk whose durable bytes are whole frames, and its loose ones too: the first records are left, and all that were durable. -/
theorem al_crash (R : List (List Nat)) (k n x : Nat) (hx : x < 256) (hR : ∀ t ∈ R, FrOk t ∧ Sm t) (hk : k ≤ R.length) (hn : n ≤ (fl (R.drop k)).length) :
    ∃ m, k ≤ m ∧ m ≤ R.length ∧ al (fl (R.take k) ++ crs (fl (R.drop k)) n x) = (R.take m, (fl (R.take m)).length) := by
  obtain ⟨m, hm, e⟩ := al_torn x hx (R.drop k) n (fun t ht => hR t (List.mem_of_mem_drop ht)) hn
  rw [List.length_drop] at hm
  have et : R.take (k + m) = R.take k ++ (R.drop k).take m := by rw [List.take_add]
  refine ⟨k + m, by omega, by omega, ?_⟩
  rw [al_app _ _ (fun t ht => (hR t (List.mem_of_mem_take ht)).1), e, et, fl_app, List.length_append]
/-- The frames of whole bytes are their bytes. -/
theorem al_again (b : List Nat) (hs : Sm b) : al (b.take (al b).2) = ((al b).1, (al b).2) := by
  obtain ⟨h1, h2, h3⟩ := al_flat b hs
  have h4 := al_whole (al b).1 (fun t ht => (h3 t ht).1)
  have h5 : (fl (al b).1).length = (al b).2 := by rw [h1, List.length_take]; omega
  rw [h5, h1] at h4
  exact h4
end Go.Proofs.YtjifionpblpfoaaDoor

/-
  A byte is put into bytes of a call's own. Conditions: none; no function is named here.
-/
namespace Go.Proofs.YtjifionpblpfoaaDoor
open Go.RowKit
open Pol (co Sm)

/-- A byte is put into bytes of a call's own. -/
theorem Mine.put {w : World} {base g n c i x : Nat} {l : List Nat} (h : Mine w base (.slice (some ⟨g, 0, none⟩) n c) l) (_ : i < l.length) : Mine (w.setCell ⟨g, i, none⟩ (.int .u8 (x : Int))) base (.slice (some ⟨g, 0, none⟩) n c) (l.set i x) := by
  rcases h.2 with ⟨e, _⟩ | ⟨g', cap, cur, e, hb, hg, hnc, hcm, hcs, ht⟩
  · cases e
  · injection e with e1 e2 e3
    injection e1 with e1
    injection e1 with e1
    subst e1; subst e3
    refine ⟨by rw [bv_len, List.length_set, Nat.mul_one], .inr ⟨g, c, cur.setIfInBounds i (.int .u8 (x : Int)), by rw [List.length_set, e2], hb, heap_setCell_same w g i cur _ _ hg, by rw [List.length_set]; exact hnc, hcm, by simpa using hcs, ?_⟩⟩
    rw [List.length_set, Array.toList_setIfInBounds, List.take_set, ht]
    unfold bv
    rw [List.map_set]
theorem set_last (L : List Nat) (m x : Nat) (h : m < L.length) : (L.take (m + 1)).set m x = L.take m ++ [x] := by
  rw [take12_succ L m h, List.set_append_right _ _ (by rw [List.length_take]; omega), List.length_take, Nat.min_eq_left (by omega), Nat.sub_self]
  rfl
theorem v64_of (z : Int) (m : Nat) (hz : z = (m : Int)) (h : m ≤ 1099511627776) : Value.int .i64 (wrap64 z) = Value.int .i64 (m : Int) := by
  subst hz
  congr 1
  unfold wrap64
  omega
theorem w64_few (m : Nat) (h : m ≤ 65536) : wrap64 (m : Int) = (m : Int) := by unfold wrap64; omega
theorem Mine.spot {w : World} {base : Nat} {v : Value} {l : List Nat} (h : Mine w base v l) (hs : Sm l) {i : Nat} (hi : i < l.length) : ∃ g n c, v = .slice (some ⟨g, 0, none⟩) n c ∧ w.cell? ⟨g, i, none⟩ = some (.int .u8 ((co l i : Nat) : Int)) ∧ w.frozen? ⟨g, i, none⟩ = false := by
  obtain ⟨B, c, rfl, _, hr⟩ := h.slice hs
  rcases h.2 with ⟨e, hn⟩ | ⟨g, cap, cur, e, hb, hg, _⟩
  · omega
  · injection e with e1 e2 e3
    subst e1
    obtain ⟨b, o, e4, hc⟩ := hr.2 i hi
    injection e4 with e4
    injection e4 with e4 e5
    subst e4; subst e5
    rw [Nat.zero_add] at hc
    exact ⟨g, _, c, rfl, hc, frozen_of_row w g i cur _ hg⟩
end Go.Proofs.YtjifionpblpfoaaDoor

/-
  What right of layer 10 does: a word is turned. Conditions: by 1 to 31.
-/
namespace Go.Proofs.YtjifionpblpfoaaDoor
open Go.RowKit
open Pol (co Sm)

set_option maxHeartbeats 400000 in
theorem sh_rot (x r : Nat) (w : World) (hx : x < 4294967296) (h0 : 0 < r) (hr : r < 32) :
    Calls Tryd.prog 69 #[.int .u32 (x : Int), .int .i64 (-(r : Int))] w (fun e w' => e = .returned (.int .u32 ((tw x r : Nat) : Int)) ∧ w = w') := by
  obtain ⟨m, hm⟩ : ∃ m, 32 - r = m := ⟨_, rfl⟩
  obtain ⟨M, hM⟩ : ∃ M, 18446744073709551616 - r = M := ⟨_, rfl⟩
  obtain ⟨q, hq⟩ : ∃ q, x / 2 ^ r = q := ⟨_, rfl⟩
  obtain ⟨y, hy⟩ : ∃ y, x * 2 ^ m % 4294967296 = y := ⟨_, rfl⟩
  obtain ⟨z, hz⟩ : ∃ z, tw x r = z := ⟨_, rfl⟩
  have e0 : IntKind.u64.wrap (-(r : Int)) = (M : Int) := by rw [IntKind.wrap_u64]; omega
  have ea : bits .and .u64 (M : Int) 31 = (m : Int) := by
    have h := u64_and_nat M 31 (by omega) (by decide)
    rw [show ((31 : Nat) : Int) = 31 from rfl] at h
    rw [h, show (31 : Nat) = 2 ^ 5 - 1 from rfl, Nat.and_two_pow_sub_one_eq_mod]
    omega
  have e1 : IntKind.u64.wrap (32 - (m : Int)) = (r : Int) := by rw [IntKind.wrap_u64]; omega
  have e1' : 32 - (m : Int) = (r : Int) := by omega
  have e2 : (x : Int) / 2 ^ r = (q : Int) := by rw [← hq]; simp
  have e3 : IntKind.u32.wrap ((x : Int) * 2 ^ m) = (y : Int) := by
    rw [IntKind.wrap_u32, ← hy]
    simp
  have hqb : q < 4294967296 := by rw [← hq]; exact Nat.lt_of_le_of_lt (Nat.div_le_self _ _) hx
  have hyb : y < 4294967296 := by rw [← hy]; exact Nat.mod_lt _ (by decide)
  have e4 : bits .or .u32 (y : Int) (q : Int) = (z : Int) := by
    rw [u32_or_nat y q hyb hqb, ← hz, Nat.or_comm]
    unfold tw
    rw [hm, hq, hy]
  have hm32 : m < 32 := by omega
  rw [hz]
  clear hm hq hy hz hM
  go_enter Tryd.func69, Tryd.ntmps69
  go_wp2
  go_ret
  exact ⟨rfl, rfl⟩
set_option maxHeartbeats 400000 in
theorem sh_right (x r : Nat) (w : World) (hx : x < 4294967296) (h0 : 0 < r) (hr : r < 32) :
    Calls Tryd.prog 66 #[.int .u32 (x : Int), .int .i64 (r : Int)] w (fun e w' => e = .returned (.int .u32 ((tw x r : Nat) : Int)) ∧ w = w') := by
  have HR := Lib.hid (fun W => sh_rot x r W hx h0 hr)
  obtain ⟨z, hz⟩ : ∃ z, tw x r = z := ⟨_, rfl⟩
  rw [hz] at HR ⊢
  have e0 : wrap64 (-(r : Int)) = -(r : Int) := by unfold wrap64; omega
  clear hz
  go_enter Tryd.func66, Tryd.ntmps66
  go_wp2_with fail
  refine (HR.out _).mono ?_
  rintro e w1 ⟨rfl, rfl⟩
  go_wp2
  go_ret
  exact ⟨rfl, rfl⟩
end Go.Proofs.YtjifionpblpfoaaDoor

/-
  What mix of layer 10 does: sixty-four rounds. Conditions: the constants lie where they were laid.
-/
namespace Go.Proofs.YtjifionpblpfoaaDoor
open Go.RowKit
open Pol (co Sm)


/-- The complement of a word; what is chosen; what most have. -/
theorem not_sub {x : Nat} (h : x < 4294967296) : x ^^^ 4294967295 = 4294967295 - x := by
  apply Nat.eq_of_testBit_eq
  intro i
  have h1 := Nat.testBit_two_pow_sub_succ (n := 32) h i
  rw [show (2 : Nat) ^ 32 - (x + 1) = 4294967295 - x from by omega] at h1
  have h2 := Nat.testBit_two_pow_sub_one 32 i
  rw [show (2 : Nat) ^ 32 - 1 = 4294967295 from rfl] at h2
  rw [Nat.testBit_xor, h2, h1]
  by_cases hi : i < 32
  · simp [hi]
  · have : x.testBit i = false := Nat.testBit_lt_two_pow (Nat.lt_of_lt_of_le h (Nat.le_trans (by decide : 4294967296 ≤ 2 ^ 32) (Nat.pow_le_pow_right (by decide) (by omega))))
    simp [hi, this]
theorem ch_or {e f g : Nat} (h : e < 4294967296) : (e &&& f) ||| ((4294967295 - e) &&& g) = (e &&& f) ^^^ ((4294967295 - e) &&& g) := by
  rw [← not_sub h]
  apply Nat.eq_of_testBit_eq
  intro i
  have h2 := Nat.testBit_two_pow_sub_one 32 i
  rw [show (2 : Nat) ^ 32 - 1 = 4294967295 from rfl] at h2
  simp only [Nat.testBit_or, Nat.testBit_xor, Nat.testBit_and, h2]
  by_cases hi : i < 32
  · simp only [hi, decide_true]
    cases e.testBit i <;> cases f.testBit i <;> cases g.testBit i <;> rfl
  · have : e.testBit i = false := Nat.testBit_lt_two_pow (Nat.lt_of_lt_of_le h (Nat.le_trans (by decide : 4294967296 ≤ 2 ^ 32) (Nat.pow_le_pow_right (by decide) (by omega))))
    simp [hi, this]
theorem maj_or (a b c : Nat) : (a &&& b ||| a &&& c) ||| b &&& c = (a &&& b ^^^ a &&& c) ^^^ b &&& c := by
  apply Nat.eq_of_testBit_eq
  intro i
  simp only [Nat.testBit_or, Nat.testBit_xor, Nat.testBit_and]
  cases a.testBit i <;> cases b.testBit i <;> cases c.testBit i <;> rfl
theorem not_u32 {x : Nat} (h : x < 4294967296) : bits .xor .u32 IntKind.u32.max (x : Int) = ((4294967295 - x : Nat) : Int) := by
  have h1 := u32_xor_nat 4294967295 x (by decide) h
  rw [Nat.xor_comm, not_sub h] at h1
  exact h1
/-- 'a[i]' of an array by value, of elements of one cell. -/
theorem idx_arr {t e : TypeId} {n : Nat} (h : Tryd.prog.underlying t = some (.array n e)) (he : Tryd.prog.plainKey e = true) (hs : Tryd.prog.cellsOf e = 1) (hi' : ∃ q, Tryd.prog.info? e = some q)
    (V : Array Value) (i : Nat) (v : Value) (hi : i < n) (hv : V[i]? = some v) (W : World) : (Instr.index t (.agg V) (.int .i64 (i : Int))).run Tryd.prog W = .ok v W := by
  obtain ⟨q, hq⟩ := hi'
  have hn : (0 : Int) ≤ (i : Int) ∧ (i : Int) < (n : Int) := by omega
  simp only [Instr.index, asIntOf, Sem.run_bind, Sem.run_pure, Result.andThen_ok, run_underlying h, hn, and_self, if_true, run_sizeOf W hq, hs]
  rw [show (i : Int).toNat * 1 = i from by omega]
  exact run_part_plain W he hv

/-- Where mix's rounds stand. -/
structure MixW (WL : List Nat) (g : Nat) (w W : World) : Prop where
  x : Ext w W
  c : ∀ i, i < 64 → W.cell? ⟨g + 1, i, none⟩ = some (.int .u32 ((co WL i : Nat) : Int))
  r : W.heap[g + 1 + 1]? = some (.cells (dt 8 fun _ => 0) 73 (0, 0))
theorem MixW.start {V0 V1 : Array Value} {WL : List Nat} (w : World) (h1 : ∀ i, i < 64 → V1[i]? = some (.int .u32 ((co WL i : Nat) : Int))) (T U : TypeId) (q : Nat) :
    MixW WL w.heap.size w ((((w.alloc (.cells V0 T)).alloc (.cells V1 U)).alloc (.cells (dt 8 fun _ => 0) 73)).drewN q) := by
  refine ⟨((((Ext.refl w).alloc _).alloc _).alloc _).drewN q, fun i hi => ?_, ?_⟩
  · show (((w.alloc (.cells V0 T)).alloc (.cells V1 U)).alloc _).cell? _ = _
    have e : w.heap.size + 1 = (w.alloc (.cells V0 T)).heap.size := by simp
    rw [World.cell?_alloc_lt _ _ _ (by simp), e, cell_of_row _ _ _ _ _ _ (heap_alloc_new (w.alloc (.cells V0 T)) _)]
    exact h1 i hi
  · have e : w.heap.size + 1 + 1 = ((w.alloc (.cells V0 T)).alloc (.cells V1 U)).heap.size := by simp
    rw [e]
    exact heap_alloc_new _ _
theorem MixW.drewN {WL : List Nat} {g : Nat} {w W : World} (h : MixW WL g w W) (q : Nat) : MixW WL g w (W.drewN q) := ⟨h.x.drewN q, h.c, h.r⟩
theorem rnd_at (k w : Nat) (S : List Nat) : co (rnd k w S) 0 = (one k w S + two S) % 4294967296 ∧ co (rnd k w S) 1 = co S 0 ∧ co (rnd k w S) 2 = co S 1 ∧ co (rnd k w S) 3 = co S 2 ∧ co (rnd k w S) 4 = (co S 3 + one k w S) % 4294967296 ∧ co (rnd k w S) 5 = co S 4 ∧ co (rnd k w S) 6 = co S 5 ∧ co (rnd k w S) 7 = co S 6 := ⟨rfl, rfl, rfl, rfl, rfl, rfl, rfl, rfl⟩

set_option maxHeartbeats 3200000 in
set_option maxRecDepth 100000 in
theorem sh_mix (S WL : List Nat) (w : World) (hgl : GL w) (hS : W32 S) (hW : W32 WL) :
    Calls Tryd.prog 57 #[.agg (dt 8 (co S)), .agg (dt 64 (co WL))] w (Tells (.agg (dt 8 (co (rds KK WL S 64)))) w) := by
  obtain ⟨V0, hV0⟩ : ∃ V, dt 8 (co S) = V := ⟨_, rfl⟩
  obtain ⟨V1, hV1⟩ : ∃ V, dt 64 (co WL) = V := ⟨_, rfl⟩
  have hc := fun i (hi : i < 8) => dt_at 8 (co S) i hi
  have hc1 := fun i (hi : i < 64) => dt_at 64 (co WL) i hi
  rw [hV0] at hc ⊢
  rw [hV1] at hc1 ⊢
  have h0 := hc 0 (by decide)
  have h1 := hc 1 (by decide)
  have h2 := hc 2 (by decide)
  have h3 := hc 3 (by decide)
  have h4 := hc 4 (by decide)
  have h5 := hc 5 (by decide)
  have h6 := hc 6 (by decide)
  have h7 := hc 7 (by decide)
  have HS := Lib.hid (fun (T U : TypeId) (q : Nat) => MixW.start (V0 := V0) w hc1 T U q)
  have HK := Lib.hid (show ∀ W, Ext w W → ∃ T, W.heap[1]? = some (.cells (dt 64 (co KK)) T (0, 0)) from fun W hW => (hgl.ext hW).2)
  have HRD := Lib.hid (fun i => rds_w32 KK WL S hS i)
  have HW := Lib.hid hW
  have HWK := Lib.hid KK_w32
  have HST := Lib.hid (fun i => show rds KK WL S (i + 1) = rnd (co KK i) (co WL i) (rds KK WL S i) from rfl)
  have hz : dt 8 (fun _ => 0) = #[.int .u32 0, .int .u32 0, .int .u32 0, .int .u32 0, .int .u32 0, .int .u32 0, .int .u32 0, .int .u32 0] := rfl
  rw [hz] at HS
  have HRT := Lib.hid (fun x r W h1 h2 h3 => sh_right x r W h1 h2 h3)
  have HZ8 := Lib.hid (show rds KK WL S 0 = S from rfl)
  clear hc hc1 hgl hS hW hV0 hV1
  go_enter Tryd.func57, Tryd.ntmps57
  go_wp2
  go_quiet (fail)
  generalize nq = q0
  go_wp2
  go_quiet (fail)
  have hm := HS.out 73 97 (q0 + nq)
  rw [World.drewN_drewN]
  obtain ⟨g, hg⟩ : ∃ g, w.heap.size = g := ⟨_, rfl⟩
  rw [hg] at hm ⊢
  generalize (((w.alloc (Obj.cells V0 73)).alloc (Obj.cells V1 97)).alloc (Obj.cells #[.int .u32 0, .int .u32 0, .int .u32 0, .int .u32 0, .int .u32 0, .int .u32 0, .int .u32 0, .int .u32 0] 73)).drewN (q0 + nq) = W3 at hm ⊢
  have HM := Lib.hid hm
  obtain ⟨TK, hgk⟩ := HK.out _ hm.x
  have HGK := Lib.hid hgk
  have HIK := Lib.hid (show (Tryd.prog.info? 97).map (·.size) = some (dt 64 (co KK)).size from by rw [dt_size]; kernel_rfl)
  have HIX := Lib.hid (fun (i : Nat) (hi : i < 64) => show ∀ W, (Instr.index 97 (.agg (dt 64 (co KK))) (.int .i64 (i : Int))).run Tryd.prog W = .ok (.int .u32 ((co KK i : Nat) : Int)) W from fun W => idx_arr Tryd.underlying97 (by kernel_rfl) (by kernel_rfl) ⟨_, rfl⟩ _ i _ hi (dt_at 64 _ i hi) W)
  have HG := Lib.hid hg
  clear hm hgk h0 h1 h2 h3 h4 h5 h6 h7 hz hg
  generalize hVK : dt 64 (co KK) = VK at HGK HIK HIX
  clear hVK HS HK
  go_wp2_with (with_reducible refine wpList_load_row rfl 97 (.global 1) rfl 1 rfl TK VK (0, 0) _ HGK.out Tryd.underlying97 rfl HIK.out ?_)
  go_loopg [5, 6, 7, 8, 9, 10, 11, 12, 36] 64 (fun gk s5 s6 s7 s8 s9 s10 s11 s12 s36 wx => ∃ i q : Nat, i + gk = 64 ∧ s36 = .int .i64 (i : Int) ∧ s5 = .int .u32 ((co (rds KK WL S i) 0 : Nat) : Int) ∧ s6 = .int .u32 ((co (rds KK WL S i) 1 : Nat) : Int) ∧ s7 = .int .u32 ((co (rds KK WL S i) 2 : Nat) : Int) ∧ s8 = .int .u32 ((co (rds KK WL S i) 3 : Nat) : Int) ∧ s9 = .int .u32 ((co (rds KK WL S i) 4 : Nat) : Int) ∧ s10 = .int .u32 ((co (rds KK WL S i) 5 : Nat) : Int) ∧ s11 = .int .u32 ((co (rds KK WL S i) 6 : Nat) : Int) ∧ s12 = .int .u32 ((co (rds KK WL S i) 7 : Nat) : Int) ∧ wx = W3.drewN q)
  case atStart => exact ⟨0, 0, by omega, rfl, by rw [HZ8.out], by rw [HZ8.out], by rw [HZ8.out], by rw [HZ8.out], by rw [HZ8.out], by rw [HZ8.out], by rw [HZ8.out], by rw [HZ8.out], rfl⟩
  case round =>
    obtain ⟨i, q, hig, rfl, rfl, rfl, rfl, rfl, rfl, rfl, rfl, rfl, rfl⟩ := hrel
    cases gk with
    | zero =>
      obtain rfl : i = 64 := by omega
      clear hig HIX HIK HGK HRT HST HWK HW HRD
      have HMQ := Lib.hid (HM.out.drewN q)
      have HR0 := Lib.hid HMQ.out.r
      generalize W3.drewN q = W4 at HMQ HR0 ⊢
      obtain ⟨R, hR⟩ : ∃ R, rds KK WL S 64 = R := ⟨_, rfl⟩
      have HIN := Lib.hid (show (Tryd.prog.info? 73).map (·.size) = some (dt 8 (co R)).size from by rw [dt_size]; kernel_rfl)
      have HSZ := Lib.hid (show (dt 8 fun _ => 0).size = (dt 8 (co R)).size from by rw [dt_size, dt_size])
      have HON := Lib.hid (dt_one 8 (co R))
      have HG3 := Lib.hid (setRow_heap W4 (g + 1 + 1) _ (dt 8 (co R)) _ _ HR0.out)
      have HX3 := Lib.hid (HMQ.out.x.setRow (g := g + 1 + 1) (by rw [HG.out]; omega) (dt 8 (co R)))
      have HE := Lib.hid (show Value.agg (dt 8 (co R)) = .agg #[.int .u32 ((co R 0 : Nat) : Int), .int .u32 ((co R 1 : Nat) : Int), .int .u32 ((co R 2 : Nat) : Int), .int .u32 ((co R 3 : Nat) : Int), .int .u32 ((co R 4 : Nat) : Int), .int .u32 ((co R 5 : Nat) : Int), .int .u32 ((co R 6 : Nat) : Int), .int .u32 ((co R 7 : Nat) : Int)] from rfl)
      have HVE := Lib.hid (show Value.agg (dt 8 (co R)) = Value.agg (dt 8 (co (rds KK WL S 64))) from by rw [hR])
      rw [hR]
      generalize dt 8 (co R) = V at HIN HSZ HON HG3 HX3 HE HVE
      generalize hZ : dt 8 (fun _ => 0) = Z at HR0 HSZ
      clear hZ hR HM HZ8
      go_wp2_with (refine wpList_store_all rfl 73 (.tmp 4) (.tmp 108) rfl (g + 1 + 1) Z V rfl HE.out.symm HR0.out HIN.out HSZ.out HON.out ?_)
      exact ⟨rfl, .agg V, results_cell_row Tryd.results57 _ _ (g + 1 + 1) 73 V (0, 0) _ rfl HG3.out Tryd.underlying73 rfl HIN.out, by rw [HVE.out], HX3.out⟩
    | succ gk =>
      have hi : i < 64 := by omega
      have hiI : (i : Int) < 64 := by omega
      have HR := Lib.hid (HRD.out i)
      have HN := Lib.hid (HST.out i)
      have hix := HIX.out i hi
      have hcw := (HM.out.drewN q).c i hi
      obtain ⟨T, hT⟩ : ∃ T, rds KK WL S i = T := ⟨_, rfl⟩
      have hwb := HW.out.at i
      have hkb := HWK.out.at i
      rw [hT] at HR HN ⊢
      clear hT
      obtain ⟨kk, hkk⟩ : ∃ x, co KK i = x := ⟨_, rfl⟩
      obtain ⟨ww, hww⟩ : ∃ x, co WL i = x := ⟨_, rfl⟩
      rw [hkk] at hix hkb HN
      rw [hww] at hcw hwb HN
      obtain ⟨na, hna⟩ : ∃ x, (one kk ww T + two T) % 4294967296 = x := ⟨_, rfl⟩
      obtain ⟨ne, hne⟩ : ∃ x, (co T 3 + one kk ww T) % 4294967296 = x := ⟨_, rfl⟩
      have hrn := rnd_at kk ww T
      rw [hna, hne, ← HN.out] at hrn
      unfold one two at hna
      unfold one at hne
      have ba := HR.out.at 0
      have bb := HR.out.at 1
      have bc := HR.out.at 2
      have bd := HR.out.at 3
      have be := HR.out.at 4
      have bf := HR.out.at 5
      have bg := HR.out.at 6
      have bh := HR.out.at 7
      have HRN := Lib.hid hrn
      clear hrn
      generalize co T 0 = a at *
      generalize co T 1 = b at *
      generalize co T 2 = c at *
      generalize co T 3 = d at *
      generalize co T 4 = e at *
      generalize co T 5 = f at *
      generalize co T 6 = gg at *
      generalize co T 7 = h at *
      obtain ⟨n1, hn1⟩ : ∃ x, 4294967295 - e = x := ⟨_, rfl⟩
      have bn1 : n1 < 4294967296 := by omega
      have en : bits .xor .u32 IntKind.u32.max (e : Int) = (n1 : Int) := by rw [not_u32 be, hn1]
      obtain ⟨x1, hx1⟩ : ∃ x, e &&& f = x := ⟨_, rfl⟩
      obtain ⟨x2, hx2⟩ : ∃ x, n1 &&& gg = x := ⟨_, rfl⟩
      obtain ⟨ch, hch⟩ : ∃ x, x1 ||| x2 = x := ⟨_, rfl⟩
      have bx1 : x1 < 4294967296 := by rw [← hx1]; exact Nat.lt_of_le_of_lt Nat.and_le_left be
      have bx2 : x2 < 4294967296 := by rw [← hx2]; exact Nat.lt_of_le_of_lt Nat.and_le_left bn1
      have bch : ch < 4294967296 := by rw [← hch]; exact Nat.or_lt_two_pow (n := 32) bx1 bx2
      have e1 : bits .and .u32 (e : Int) (f : Int) = (x1 : Int) := by rw [u32_and_nat e f be bf, hx1]
      have e2 : bits .and .u32 (n1 : Int) (gg : Int) = (x2 : Int) := by rw [u32_and_nat n1 gg bn1 bg, hx2]
      have e3 : bits .or .u32 (x1 : Int) (x2 : Int) = (ch : Int) := by rw [u32_or_nat x1 x2 bx1 bx2, hch]
      have hcx : x1 ^^^ x2 = ch := by rw [← hch, ← hx1, ← hx2, ← hn1]; exact (ch_or be).symm
      obtain ⟨y1, hy1⟩ : ∃ x, a &&& b = x := ⟨_, rfl⟩
      obtain ⟨y2, hy2⟩ : ∃ x, a &&& c = x := ⟨_, rfl⟩
      obtain ⟨y3, hy3⟩ : ∃ x, y1 ||| y2 = x := ⟨_, rfl⟩
      obtain ⟨y4, hy4⟩ : ∃ x, b &&& c = x := ⟨_, rfl⟩
      obtain ⟨mj, hmj⟩ : ∃ x, y3 ||| y4 = x := ⟨_, rfl⟩
      have by1 : y1 < 4294967296 := by rw [← hy1]; exact Nat.lt_of_le_of_lt Nat.and_le_left ba
      have by2 : y2 < 4294967296 := by rw [← hy2]; exact Nat.lt_of_le_of_lt Nat.and_le_left ba
      have by3 : y3 < 4294967296 := by rw [← hy3]; exact Nat.or_lt_two_pow (n := 32) by1 by2
      have by4 : y4 < 4294967296 := by rw [← hy4]; exact Nat.lt_of_le_of_lt Nat.and_le_left bb
      have bmj : mj < 4294967296 := by rw [← hmj]; exact Nat.or_lt_two_pow (n := 32) by3 by4
      have f1 : bits .and .u32 (a : Int) (b : Int) = (y1 : Int) := by rw [u32_and_nat a b ba bb, hy1]
      have f2 : bits .and .u32 (a : Int) (c : Int) = (y2 : Int) := by rw [u32_and_nat a c ba bc, hy2]
      have f3 : bits .or .u32 (y1 : Int) (y2 : Int) = (y3 : Int) := by rw [u32_or_nat y1 y2 by1 by2, hy3]
      have f4 : bits .and .u32 (b : Int) (c : Int) = (y4 : Int) := by rw [u32_and_nat b c bb bc, hy4]
      have f5 : bits .or .u32 (y3 : Int) (y4 : Int) = (mj : Int) := by rw [u32_or_nat y3 y4 by3 by4, hmj]
      have hmx : y1 ^^^ y2 ^^^ y4 = mj := by rw [← hmj, ← hy3, ← hy1, ← hy2, ← hy4]; exact (maj_or a b c).symm
      rw [hn1, hx1, hx2, hcx] at hna hne
      rw [hy1, hy2, hy4, hmx] at hna
      clear hn1 hx1 hx2 hch hy1 hy2 hy3 hy4 hmj hcx hmx
      have b6 := tw_lt (n := 6) be
      have b11 := tw_lt (n := 11) be
      have b25 := tw_lt (n := 25) be
      have b2 := tw_lt (n := 2) ba
      have b13 := tw_lt (n := 13) ba
      have b22 := tw_lt (n := 22) ba
      have HT6 := Lib.hid (fun W => show Calls Tryd.prog 66 #[.int .u32 (e : Int), .int .i64 6] W (fun e' w' => e' = .returned (.int .u32 ((tw e 6 : Nat) : Int)) ∧ W = w') from HRT.out e 6 W be (by decide) (by decide))
      have HT11 := Lib.hid (fun W => show Calls Tryd.prog 66 #[.int .u32 (e : Int), .int .i64 11] W (fun e' w' => e' = .returned (.int .u32 ((tw e 11 : Nat) : Int)) ∧ W = w') from HRT.out e 11 W be (by decide) (by decide))
      have HT25 := Lib.hid (fun W => show Calls Tryd.prog 66 #[.int .u32 (e : Int), .int .i64 25] W (fun e' w' => e' = .returned (.int .u32 ((tw e 25 : Nat) : Int)) ∧ W = w') from HRT.out e 25 W be (by decide) (by decide))
      have HT2 := Lib.hid (fun W => show Calls Tryd.prog 66 #[.int .u32 (a : Int), .int .i64 2] W (fun e' w' => e' = .returned (.int .u32 ((tw a 2 : Nat) : Int)) ∧ W = w') from HRT.out a 2 W ba (by decide) (by decide))
      have HT13 := Lib.hid (fun W => show Calls Tryd.prog 66 #[.int .u32 (a : Int), .int .i64 13] W (fun e' w' => e' = .returned (.int .u32 ((tw a 13 : Nat) : Int)) ∧ W = w') from HRT.out a 13 W ba (by decide) (by decide))
      have HT22 := Lib.hid (fun W => show Calls Tryd.prog 66 #[.int .u32 (a : Int), .int .i64 22] W (fun e' w' => e' = .returned (.int .u32 ((tw a 22 : Nat) : Int)) ∧ W = w') from HRT.out a 22 W ba (by decide) (by decide))
      generalize tw e 6 = r6 at *
      generalize tw e 11 = r11 at *
      generalize tw e 25 = r25 at *
      generalize tw a 2 = r2 at *
      generalize tw a 13 = r13 at *
      generalize tw a 22 = r22 at *
      obtain ⟨t1, ht1⟩ : ∃ x, r6 ^^^ r11 = x := ⟨_, rfl⟩
      obtain ⟨t2, ht2⟩ : ∃ x, t1 ^^^ r25 = x := ⟨_, rfl⟩
      obtain ⟨v1, hv1⟩ : ∃ x, r2 ^^^ r13 = x := ⟨_, rfl⟩
      obtain ⟨v2, hv2⟩ : ∃ x, v1 ^^^ r22 = x := ⟨_, rfl⟩
      have bt1 : t1 < 4294967296 := by rw [← ht1]; exact Nat.xor_lt_two_pow (n := 32) b6 b11
      have bt2 : t2 < 4294967296 := by rw [← ht2]; exact Nat.xor_lt_two_pow (n := 32) bt1 b25
      have bv1 : v1 < 4294967296 := by rw [← hv1]; exact Nat.xor_lt_two_pow (n := 32) b2 b13
      have bv2 : v2 < 4294967296 := by rw [← hv2]; exact Nat.xor_lt_two_pow (n := 32) bv1 b22
      have g1 : bits .xor .u32 (r6 : Int) (r11 : Int) = (t1 : Int) := by rw [u32_xor_nat r6 r11 b6 b11, ht1]
      have g2 : bits .xor .u32 (t1 : Int) (r25 : Int) = (t2 : Int) := by rw [u32_xor_nat t1 r25 bt1 b25, ht2]
      have g3 : bits .xor .u32 (r2 : Int) (r13 : Int) = (v1 : Int) := by rw [u32_xor_nat r2 r13 b2 b13, hv1]
      have g4 : bits .xor .u32 (v1 : Int) (r22 : Int) = (v2 : Int) := by rw [u32_xor_nat v1 r22 bv1 b22, hv2]
      rw [ht1, ht2] at hna hne
      rw [hv1, hv2] at hna
      clear ht1 ht2 hv1 hv2
      obtain ⟨u1, hu1⟩ : ∃ x, (h + t2) % 4294967296 = x := ⟨_, rfl⟩
      obtain ⟨u2, hu2⟩ : ∃ x, (u1 + ch) % 4294967296 = x := ⟨_, rfl⟩
      obtain ⟨u3, hu3⟩ : ∃ x, (u2 + kk) % 4294967296 = x := ⟨_, rfl⟩
      obtain ⟨u4, hu4⟩ : ∃ x, (u3 + ww) % 4294967296 = x := ⟨_, rfl⟩
      obtain ⟨u5, hu5⟩ : ∃ x, (v2 + mj) % 4294967296 = x := ⟨_, rfl⟩
      have w1 : IntKind.u32.wrap ((h : Int) + (t2 : Int)) = (u1 : Int) := by rw [IntKind.wrap_u32]; omega
      have w2 : IntKind.u32.wrap ((u1 : Int) + (ch : Int)) = (u2 : Int) := by rw [IntKind.wrap_u32]; omega
      have w3 : IntKind.u32.wrap ((u2 : Int) + (kk : Int)) = (u3 : Int) := by rw [IntKind.wrap_u32]; omega
      have w4 : IntKind.u32.wrap ((u3 : Int) + (ww : Int)) = (u4 : Int) := by rw [IntKind.wrap_u32]; omega
      have w5 : IntKind.u32.wrap ((v2 : Int) + (mj : Int)) = (u5 : Int) := by rw [IntKind.wrap_u32]; omega
      have eo : (h + t2 + ch + kk + ww) % 4294967296 = u4 := by omega
      rw [eo, hu5] at hna
      rw [eo] at hne
      have w6 : IntKind.u32.wrap ((u4 : Int) + (u5 : Int)) = (na : Int) := by rw [IntKind.wrap_u32]; omega
      have w7 : IntKind.u32.wrap ((d : Int) + (u4 : Int)) = (ne : Int) := by rw [IntKind.wrap_u32]; omega
      have bu1 : u1 < 4294967296 := by omega
      have bu2 : u2 < 4294967296 := by omega
      have bu3 : u3 < 4294967296 := by omega
      have bu4 : u4 < 4294967296 := by omega
      have bu5 : u5 < 4294967296 := by omega
      have HIG := Lib.hid hig
      clear hna hne hu1 hu2 hu3 hu4 hu5 eo hig hkk hww
      generalize hWQ : W3.drewN q = Wq at hcw ⊢
      have HWQ := Lib.hid hWQ
      clear hWQ
      go_wp2
      go_quiet (first | (go_at_call 66; with_reducible exact quiet_same (HT6.out _)) | (go_at_call 66; with_reducible exact quiet_same (HT11.out _)) | (go_at_call 66; with_reducible exact quiet_same (HT25.out _)))
      go_wp2_with fail
      refine (HT2.out _).mono ?_
      rintro e' w' ⟨rfl, rfl⟩
      go_wp2_with fail
      refine (HT13.out _).mono ?_
      rintro e' w' ⟨rfl, rfl⟩
      go_wp2_with fail
      refine (HT22.out _).mono ?_
      rintro e' w' ⟨rfl, rfl⟩
      go_wp2
      go_roundg gk
      case measure => omega
      case rel => exact ⟨i + 1, q + nq, by have := HIG.out; omega, by go_num, by rw [HRN.out.1], by rw [HRN.out.2.1], by rw [HRN.out.2.2.1], by rw [HRN.out.2.2.2.1], by rw [HRN.out.2.2.2.2.1], by rw [HRN.out.2.2.2.2.2.1], by rw [HRN.out.2.2.2.2.2.2.1], by rw [HRN.out.2.2.2.2.2.2.2], by rw [← HWQ.out, World.drewN_drewN]⟩
end Go.Proofs.YtjifionpblpfoaaDoor

/-
  A region that draws its order, whose first operations leave every world of a class in that class and yield the same values in all of them, and whose last operations follow in a forced order: one walk of the text's order serves every order. Conditions: none; of no program in particular.
-/
namespace Go.Proofs.YtjifionpblpfoaaDoor
open Go

section
variable {P : Program} {ops : Array Oper} {md : Region.Mode} {C : World → Prop}

/-- f operations below n come up in whatever order, each quiet in the class; then L. -/
def ahead (P : Program) (md : Region.Mode) (ops : Array Oper) (C : World → Prop) (n : Nat) (L : Array Bool → Act → Prop) : Nat → Array Bool → Act → Prop
  | 0, listed, a => L listed a
  | f + 1, listed, a => Region.ready md ops listed ≠ [] ∧ ∀ i, i ∈ Region.ready md ops listed → i < n ∧ qOp P ops C i (ahead P md ops C n L f (listed.setIfInBounds i true)) a

theorem wpAny_of_ahead {n g : Nat} {L : Array Bool → Act → Prop} {Q' : Exit → Act → World → Prop} (hL : ∀ listed a w, C w → L listed a → wpAny P md ops Q' g listed a w) (f : Nat) :
    ∀ (listed : Array Bool) (a : Act) (w : World), C w → ahead P md ops C n L f listed a → wpAny P md ops Q' (f + g) listed a w := by
  induction f with
  | zero => intro listed a w hw h; rw [Nat.zero_add]; exact hL _ _ _ hw h
  | succ f ih =>
    intro listed a w hw h
    rw [Nat.succ_add]
    exact ⟨fun h0 => absurd h0 h.1, fun i hi => wpOp_of_qOp hw (fun a' w' hw' h' => ih _ a' w' hw' h') (h.2 i hi).2⟩

/-- What may come up now may be taken first. -/
theorem ahead_first {n i : Nat} {oi : Oper} {v : Value} {L : Array Bool → Act → Prop} (hi : ops[i]? = some oi) (hsel : ∀ (j : Nat) (o : Oper) cs b, ops[j]? = some o → o.op ≠ .select cs b)
    (hs : Region.sinkB md ops n = true) (hc : Region.chainB md ops n = true) (hn : n < ops.size) (hin : i < n)
    (hdone : ∀ listed a, L listed a → ∀ j ∈ Region.ready md ops listed, n ≤ j) (f : Nat) :
    ∀ (listed : Array Bool) (a : Act), HeadInv md ops n listed →
      (∀ j oj, ops[j]? = some oj → j ≠ i → listed.getD j true = false → (∀ e ∈ oj.after, Region.binds md e = true → e.on ≠ i) → oi.apart ops oj = true) →
      i ∈ Region.ready md ops listed → YieldsIn P ops C oi v a →
      ahead P md ops C n L f (listed.setIfInBounds i true) (a.put oi.dst v) → ahead P md ops C n L (f + 1) listed a := by
  induction f with
  | zero =>
    intro listed a inv _ hr hy H
    refine ⟨List.ne_nil_of_mem hr, fun j hj => ?_⟩
    have hjn : j < n := Nat.lt_of_not_le fun h => tail_waits hs hc hn inv _ i rfl hin (mem_ready.1 hr).1 j h hj
    by_cases hji : j = i
    · subst hji; exact ⟨hjn, hy.qOp hi H⟩
    · exact absurd (hdone _ _ H j (ready_mono hj hji)) (by omega)
  | succ f ih =>
    intro listed a inv hfree hr hy H
    have hun := (mem_ready.1 hr).1
    refine ⟨List.ne_nil_of_mem hr, fun j hj => ?_⟩
    have hjn : j < n := Nat.lt_of_not_le fun h => tail_waits hs hc hn inv _ i rfl hin hun j h hj
    by_cases hji : j = i
    · subst hji; exact ⟨hjn, hy.qOp hi H⟩
    obtain ⟨hjun, oj, hoj, hall⟩ := mem_ready.1 hj
    have hap := hfree j oj hoj hji hjun fun e he hb heq => by
      have h1 := hall e he hb
      rw [heq, getD_both hun] at h1
      cases h1
    refine ⟨hjn, qOp_mono (fun a' h3 => ih (listed.setIfInBounds j true) a' (inv.set hj hjn) ?_ (ready_mono hr (Ne.symm hji)) h3.1 ?_)
      (qOp_put hoj hap (fun cs b => hsel i oi cs b hi) (fun cs b => hsel j oj cs b hoj) hy (H.2 j (ready_mono hj hji)).2)⟩
    · intro k ok hk hki hu hno
      refine hfree k ok hk hki ?_ hno
      by_cases hjk : j = k
      · subst hjk; exact hjun
      · rwa [getD_set_ne true hjk] at hu
    · rw [Array.setIfInBounds_comm _ _ hji]; exact h3.2

theorem ahead_lex {n g : Nat} {Lq : Act → Prop} (hsel : Region.noSelect ops = true) (hs : Region.sinkB md ops n = true) (hc : Region.chainB md ops n = true) (hn : n < ops.size) (l : List Oper) :
    ∀ (k : Nat) (listed : Array Bool) (a : Act), (∀ j, j < l.length → l[j]? = ops[k + j]?) → k + l.length = n → HeadInv md ops n listed →
    Region.lexHead md ops g l.length k listed = true → wpQuiet P ops C Lq l a →
    ahead P md ops C n (fun listed' a' => Region.seqB md ops g n listed' = true ∧ Lq a') l.length listed a := by
  induction l with
  | nil =>
    intro k listed a _ hk _ hB h
    obtain rfl : k = n := by simpa using hk
    exact ⟨by simpa [Region.lexHead] using hB, h⟩
  | cons o l ih =>
    intro k listed a hl hk inv hB h
    have h0 : ops[k]? = some o := by simpa using (hl 0 (by simp)).symm
    simp only [List.length_cons, Region.lexHead, Bool.and_eq_true] at hB hk
    have hr : k ∈ Region.ready md ops listed := by simpa using hB.1.1
    obtain ⟨v, hy, hK⟩ := yieldsIn_of_qOp (C := C) (K := wpQuiet P ops C Lq l) h0 (by unfold qOp; simp only [h0]; exact h)
    refine ahead_first h0 (Region.noSelect_spec hsel) hs hc hn (by omega) (fun _ _ hL => seqB_ready hL.1) l.length listed a inv (Region.free_spec h0 hB.1.2) hr hy ?_
    exact ih (k + 1) _ _ (fun j hj => by have := hl (j + 1) (by simp; omega); simpa [Nat.add_assoc, Nat.add_comm 1 j] using this) (by omega) (inv.set hr (by omega)) hB.2 hK

theorem any_quiet_tail {Q : Exit → Act → World → Prop} {a : Act} {w : World} {l : List Oper} (n : Nat) (C : World → Prop) (hB : Region.lexTailB .any l.toArray n = true) (hC : C w.drew)
    (h : wpQuiet P l.toArray C (fun a' => ∀ w', C w' → wpList P l.toArray Q (l.drop n) a' w') (l.take n) a) : wpAny P .any l.toArray Q l.toArray.size (Array.replicate l.toArray.size false) a w.drew := by
  simp only [Region.lexTailB, Bool.and_eq_true, decide_eq_true_eq] at hB
  obtain ⟨⟨⟨⟨hsel, hn⟩, hs⟩, hc⟩, hlex⟩ := hB
  have hn' : n < l.length := by simpa using hn
  have htl : (l.take n).length = n := by rw [List.length_take]; omega
  have hdl : (l.drop n).length = l.toArray.size - n := by simp
  have inv0 : HeadInv .any l.toArray n (Array.replicate l.toArray.size false) :=
    ⟨by simp, fun j oj _ hl => (by rw [getD_replicate_false] at hl; cases hl), fun t _ ht => getD_in (by simpa using ht) (getD_replicate_false _ _)⟩
  have H := ahead_lex (md := .any) (g := l.toArray.size - n) (C := C) hsel hs hc hn (l.take n) 0 _ a (fun j hj => by
    have hj' : j < n := by rwa [htl] at hj
    simp [hj']) (by rw [htl]; exact Nat.zero_add n) inv0 (by rw [htl]; exact hlex) h
  have key := wpAny_of_ahead (C := C) (Q' := Q) (g := l.toArray.size - n) (fun listed a' w' hw' hL => by
    have := wpAny_of_seq (md := .any) (Q' := Q) (l.drop n) n listed a' w' (fun j => by simp [List.getElem?_drop]) (by rw [hdl]; exact hL.1) (hL.2 w' hw')
    rwa [hdl] at this) _ _ _ _ hC H
  rw [htl, show n + (l.toArray.size - n) = l.toArray.size by omega] at key
  exact key
theorem wp_region_quiet_tail {id : Nat} {Q : Exit → Act → World → Prop} {a : Act} {w : World} {l : List Oper} (n : Nat) (C : World → Prop) (hm : P.follows .mixedOrders = true) (hB : Region.lexTailB .any l.toArray n = true) (hC : C w.drew)
    (h : wpQuiet P l.toArray C (fun a' => ∀ w', C w' → wpList P l.toArray Q (l.drop n) a' w') (l.take n) a) : (Code.region id l.toArray true).wp P Q a w :=
  wp_region_any hm (any_quiet_tail n C hB hC h)
end
end Go.Proofs.YtjifionpblpfoaaDoor

/-
  What schedule of layer 10 does: a block's sixty-four words. Conditions: none.
-/
namespace Go.Proofs.YtjifionpblpfoaaDoor
open Go.RowKit
open Pol (co Sm)

/-- The first m bytes of a word. -/
def pw (B : Nat → Nat) (j : Nat) : Nat → Nat
  | 0 => 0
  | m + 1 => pw B j m * 256 + B (4 * j + m)
theorem pw_lt {B : Nat → Nat} (hB : ∀ i, B i < 256) (j : Nat) : ∀ m, pw B j m < 256 ^ m
  | 0 => Nat.one_pos
  | m + 1 => by
    have := pw_lt hB j m
    have := hB (4 * j + m)
    rw [pw, Nat.pow_succ]
    omega
/-- The words, when k bytes are in. -/
def pws (B : Nat → Nat) (k j : Nat) : Nat := pw B j (min 4 (k - 4 * j))
theorem pws_zero (B : Nat → Nat) (j : Nat) : pws B 0 j = 0 := by unfold pws; rw [show min 4 (0 - 4 * j) = 0 by omega]; rfl
theorem pws_step (B : Nat → Nat) (k q j : Nat) (hq : k / 4 = q) : upd (pws B k) q (pws B k q * 256 + B k) j = pws B (k + 1) j := by
  unfold upd
  by_cases e : j = q
  · subst e
    rw [if_pos rfl]
    unfold pws
    rw [show min 4 (k - 4 * j) = k - 4 * j by omega, show min 4 (k + 1 - 4 * j) = k - 4 * j + 1 by omega, pw, show 4 * j + (k - 4 * j) = k by omega]
  · rw [if_neg e]
    unfold pws
    by_cases h : j < q
    · rw [show min 4 (k - 4 * j) = 4 by omega, show min 4 (k + 1 - 4 * j) = 4 by omega]
    · rw [show min 4 (k - 4 * j) = 0 by omega, show min 4 (k + 1 - 4 * j) = 0 by omega]
theorem pws_lt {B : Nat → Nat} (hB : ∀ i, B i < 256) (k q : Nat) (hq : k / 4 = q) : pws B k q < 16777216 := by
  unfold pws
  have h := pw_lt hB q (min 4 (k - 4 * q))
  exact Nat.lt_of_lt_of_le h (Nat.le_trans (Nat.pow_le_pow_right (by decide) (show min 4 (k - 4 * q) ≤ 3 by omega)) (by decide))
def wof (B : Nat → Nat) (j : Nat) : Nat := B (4 * j) * 16777216 + B (4 * j + 1) * 65536 + B (4 * j + 2) * 256 + B (4 * j + 3)
theorem pw_four (B : Nat → Nat) (j : Nat) : pw B j 4 = wof B j := by
  simp only [pw, wof, Nat.zero_mul, Nat.zero_add, Nat.add_zero]
  omega
theorem wof_lt {B : Nat → Nat} (hB : ∀ i, B i < 256) (j : Nat) : wof B j < 4294967296 := by
  have h0 := hB (4 * j)
  have h1 := hB (4 * j + 1)
  have h2 := hB (4 * j + 2)
  have h3 := hB (4 * j + 3)
  unfold wof
  omega
theorem or_byte (x y : Nat) (hy : y < 256) : x * 256 ||| y = x * 256 + y := by
  have h := Nat.two_pow_add_eq_or_of_lt (i := 8) (b := y) hy x
  rw [Nat.mul_comm x, ← show (2 : Nat) ^ 8 = 256 from rfl, ← h]
theorem wl_end (F : Nat → Nat) (j x : Nat) : co (wl F j ++ [x]) j = x := by unfold co; rw [List.getElem?_append_right (by rw [wl_len]; exact Nat.le_refl _), wl_len, Nat.sub_self]; rfl
theorem wl_in (F : Nat → Nat) (j x i : Nat) (h : i < j) : co (wl F j ++ [x]) i = co (wl F j) i := by unfold co; rw [List.getElem?_append_left (by rw [wl_len]; exact h)]
/-- The words grow at their end alone. -/
theorem wl_pre (F : Nat → Nat) (j : Nat) : ∀ m, j < m → co (wl F m) j = co (wl F (j + 1)) j
  | 0, h => by omega
  | m + 1, h => by
    by_cases e : j = m
    · rw [e]
    · rw [wl, wl_in F m _ j (by omega)]
      exact wl_pre F j m (by omega)
theorem wl_at (F : Nat → Nat) (j m : Nat) (h : j < m) (hm : m ≤ 64) : co (wl F m) j = co (wl F 64) j := by rw [wl_pre F j m h, wl_pre F j 64 (by omega)]
theorem wl_low (F : Nat → Nat) (j : Nat) (h : j < 16) : co (wl F 64) j = F j := by
  rw [wl_pre F j 64 (by omega), wl, wl_end, if_pos h]
theorem wl_high (F : Nat → Nat) (j : Nat) (h : 16 ≤ j) (h64 : j < 64) : co (wl F 64) j = (co (wl F 64) (j - 16) + co (wl F 64) (j - 7) + sg0 (co (wl F 64) (j - 15)) + sg1 (co (wl F 64) (j - 2))) % 4294967296 := by
  rw [wl_pre F j 64 (by omega), wl, wl_end, if_neg (by omega)]
  show wnx (wl F j) j = _
  unfold wnx
  rw [wl_at F (j - 16) j (by omega) (by omega), wl_at F (j - 7) j (by omega) (by omega), wl_at F (j - 15) j (by omega) (by omega), wl_at F (j - 2) j (by omega) (by omega)]
theorem zero_words : (∀ w, (zeroValue 97).run Tryd.prog w = .ok (.agg (dt 64 fun _ => 0)) w) ∧ (Tryd.prog.info? 97).map (·.size) = some 64 := by
  rw [dt_zero]
  exact zero_of_info (by kernel_rfl)
theorem store_dt {n : Nat} {T : TypeId} (w : World) (g : Nat) (f f' : Nat → Nat) (hg : WBlk T n w g f) : (storeCells ⟨g, 0, none⟩ (dt n f').toList).run Tryd.prog w = .ok () (w.setRow g (dt n f')) := by
  have h := run_storeCells_from (P := Tryd.prog) g T (dt n f').toList 0 (dt n f) w hg (by simp [dt_size]) (fun v hv => (Array.all_eq_true_iff_forall_mem.1 (dt_one n f')) v (by simpa using hv))
  simpa using h

/-- Where schedule's loops stand: the block's bytes behind g, the result, the words. -/
structure SchW (B f : Nat → Nat) (g : Nat) (w W : World) : Prop where
  x : Ext w W
  b : W.heap[g]? = some (.cells (bt 64 B) 99 (0, 0))
  r : WBlk 97 64 W (g + 1) (fun _ => 0)
  ws : WBlk 97 64 W (g + 1 + 1) f
theorem SchW.start (B : Nat → Nat) (w : World) : SchW B (fun _ => 0) w.heap.size w (((w.alloc (.cells (bt 64 B) 99)).alloc (.cells (dt 64 fun _ => 0) 97)).alloc (.cells (dt 64 fun _ => 0) 97)) := by
  have e1 : w.heap.size + 1 = (w.alloc (.cells (bt 64 B) 99)).heap.size := by simp
  have e2 : w.heap.size + 1 + 1 = ((w.alloc (.cells (bt 64 B) 99)).alloc (.cells (dt 64 fun _ => 0) 97)).heap.size := by simp
  refine ⟨(((Ext.refl w).alloc _).alloc _).alloc _, ?_, ?_, ?_⟩
  · rw [heap_alloc_old _ _ (by simp; omega), heap_alloc_old _ _ (by simp)]
    exact heap_alloc_new w _
  · unfold WBlk
    rw [heap_alloc_old _ _ (by rw [e1]; simp), e1]
    exact heap_alloc_new _ _
  · rw [e2]
    exact WBlk.new _ _
theorem SchW.store {B f : Nat → Nat} {g : Nat} {w W : World} (h : SchW B f g w W) (hg : w.heap.size = g) (j v : Nat) : SchW B (upd f j v) g w (W.setCell ⟨g + 1 + 1, j, none⟩ (.int .u32 (v : Int))) :=
  ⟨h.x.setCell (by rw [hg]; show g ≤ g + 1 + 1; omega) _, (heap_setCell_other W ⟨g + 1 + 1, j, none⟩ g _ (by simp; omega)).trans h.b, (heap_setCell_other W ⟨g + 1 + 1, j, none⟩ (g + 1) _ (by simp)).trans h.r, h.ws.store j v⟩
theorem SchW.congr {B f f' : Nat → Nat} {g : Nat} {w W : World} (h : SchW B f g w W) (hf : ∀ i, i < 64 → f i = f' i) : SchW B f' g w W := ⟨h.x, h.b, h.r, h.ws.congr hf⟩
theorem SchW.drewN {B f : Nat → Nat} {g : Nat} {w W : World} (h : SchW B f g w W) (q : Nat) : SchW B f g w (W.drewN q) := ⟨h.x.drewN q, h.b, h.r, h.ws⟩
theorem info_words (f : Nat → Nat) : (Tryd.prog.info? 97).map (·.size) = some (dt 64 f).size := by rw [dt_size]; exact zero_words.2
theorem info_block (f : Nat → Nat) : (Tryd.prog.info? 99).map (·.size) = some (bt 64 f).size := by rw [bt_size]; kernel_rfl

set_option maxHeartbeats 3200000 in
set_option maxRecDepth 100000 in
theorem sh_schedule (B : Nat → Nat) (w : World) (hB : ∀ i, B i < 256) :
    Calls Tryd.prog 58 #[.agg (bt 64 B)] w (Tells (.agg (dt 64 (co (wl (wof B) 64)))) w) := by
  obtain ⟨g, hg⟩ : ∃ g, w.heap.size = g := ⟨_, rfl⟩
  have HG := Lib.hid hg
  have hst := SchW.start B w
  have HB := Lib.hid hB
  have HIX := Lib.hid (fun (i : Nat) (hi : i < 64) => show ∀ W, (Instr.index 99 (.agg (bt 64 B)) (.int .i64 (i : Int))).run Tryd.prog W = .ok (.int .u8 ((B i : Nat) : Int)) W from fun W => idx_arr Tryd.underlying99 (by kernel_rfl) (by kernel_rfl) ⟨_, rfl⟩ _ i _ hi (bt_at 64 B i hi) W)
  have HIB := Lib.hid (info_block B)
  have hz := zero_words.1
  have hzs : (dt 64 fun _ => 0).size = 64 := dt_size _ _
  have hzo := dt_one 64 (fun _ => 0)
  have hs2 := store_dt (n := 64) (T := 97) _ _ _ (fun _ => 0) hst.ws
  rw [setRow_same _ _ _ _ hst.ws] at hs2
  have HBB := Lib.hid hst.b
  rw [hg] at HBB hst
  have HST := Lib.hid hst
  clear hst hB
  generalize hVB : bt 64 B = VB at *
  generalize hZ : (dt 64 fun _ => 0) = Z at *
  clear hVB hg
  go_enter Tryd.func58, Tryd.ntmps58
  go_wp2_with (with_reducible refine wpList_load_row rfl 99 (.tmp 1) rfl w.heap.size rfl 99 VB (0, 0) _ (by rw [HG.out]; exact HBB.out) Tryd.underlying99 rfl HIB.out ?_)
  rw [HG.out]
  rw [HG.out] at hs2
  generalize ((w.alloc (Obj.cells VB 99)).alloc (Obj.cells Z 97)).alloc (Obj.cells Z 97) = W3 at HST
  have HIZ := Lib.hid (show Z.size = 64 from hzs)
  have HZ := Lib.hid hZ
  clear hz hzs hzo hs2 hZ
  go_loopg [11] 64 (fun gk s11 wx => ∃ k : Nat, k + gk = 64 ∧ s11 = .int .i64 (k : Int) ∧ SchW B (pws B k) g w wx)
  case atStart => exact ⟨0, by omega, rfl, HST.out.congr (fun j _ => (pws_zero B j).symm)⟩
  case round =>
    obtain ⟨k, hkg, rfl, hw⟩ := hrel
    have HW := Lib.hid hw
    have HKG := Lib.hid hkg
    clear hw
    cases gk with
    | zero =>
      obtain rfl : k = 64 := by omega
      have HF := Lib.hid (HW.out.congr (f' := fun j => if j < 16 then co (wl (wof B) 64) j else 0) (fun j hj => by
        unfold pws
        by_cases h : j < 16
        · rw [if_pos h, show min 4 (64 - 4 * j) = 4 by omega, pw_four, wl_low _ j h]
        · rw [if_neg h, show min 4 (64 - 4 * j) = 0 by omega]; rfl))
      have HWH := Lib.hid (fun j h h64 => wl_high (wof B) j h h64)
      have HWB := Lib.hid (fun j => (wl_w32 (wof B) (wof_lt HB.out) 64).at j)
      have HRT := Lib.hid (fun x r W h1 h2 h3 => sh_right x r W h1 h2 h3)
      clear HW HIX HB HST HBB hkg
      generalize wl (wof B) 64 = L at *
      go_wp2_with fail
      go_loopg [6] 48 (fun gk s6 wx => ∃ i : Nat, i + gk = 64 ∧ 16 ≤ i ∧ s6 = .int .i64 (i : Int) ∧ SchW B (fun j => if j < i then co L j else 0) g w wx)
      case atStart => exact ⟨16, by omega, by omega, rfl, HF.out⟩
      case round =>
        obtain ⟨i, hig, hi16, rfl, hw⟩ := hrel
        have HW := Lib.hid hw
        have HIG := Lib.hid hig
        clear hw
        cases gk with
        | zero =>
          obtain rfl : i = 64 := by omega
          have hb : WBlk 97 64 wr (g + 1 + 1) (co L) := (HW.out.congr (fun j hj => if_pos hj)).ws
          have hr := HW.out.r
          unfold WBlk at hb hr
          rw [HZ.out] at hr
          have HR0 := Lib.hid hr
          have HBL := Lib.hid hb
          have HIN := Lib.hid (info_words (co L))
          have HSZ := Lib.hid (show Z.size = (dt 64 (co L)).size from by rw [HIZ.out, dt_size])
          have HON := Lib.hid (dt_one 64 (co L))
          have HG3 := Lib.hid (setRow_heap wr (g + 1) _ (dt 64 (co L)) _ _ hr)
          have HX3 := Lib.hid (HW.out.x.setRow (g := g + 1) (by rw [HG.out]; omega) (dt 64 (co L)))
          have HVE := Lib.hid (show Value.agg (dt 64 (co L)) = Value.agg (dt 64 (co L)) from rfl)
          generalize dt 64 (co L) = V at *
          clear hb hr hig
          go_wp2_with (first | (with_reducible refine wpList_load_row rfl 97 (.tmp 3) rfl (g + 1 + 1) rfl 97 V (0, 0) _ HBL.out Tryd.underlying97 rfl HIN.out ?_) | (with_reducible refine wpList_store_all rfl 97 (.tmp 2) (.tmp 70) rfl (g + 1) Z V rfl rfl HR0.out HIN.out HSZ.out HON.out ?_))
          exact ⟨rfl, .agg V, results_cell_row Tryd.results58 _ _ (g + 1) 97 V (0, 0) _ rfl HG3.out Tryd.underlying97 rfl HIN.out, rfl, HX3.out⟩
        | succ gk =>
          have hi : i < 64 := by omega
          have hiI : (i : Int) < 64 := by omega
          have HN := Lib.hid (fun q => ((HW.out.drewN q).store HG.out i (co L i)).congr (f' := fun j => if j < i + 1 then co L j else 0) (fun j _ => by
            unfold upd
            by_cases h : j = i
            · subst h; rw [if_pos rfl, if_pos (by omega)]
            · rw [if_neg h]
              show (if j < i then co L j else 0) = if j < i + 1 then co L j else 0
              by_cases h2 : j < i
              · rw [if_pos h2, if_pos (by omega)]
              · rw [if_neg h2, if_neg (by omega)]))
          obtain ⟨p16, hp16⟩ : ∃ p, i - 16 = p := ⟨_, rfl⟩
          obtain ⟨p15, hp15⟩ : ∃ p, i - 15 = p := ⟨_, rfl⟩
          obtain ⟨p7, hp7⟩ : ∃ p, i - 7 = p := ⟨_, rfl⟩
          obtain ⟨p2, hp2⟩ : ∃ p, i - 2 = p := ⟨_, rfl⟩
          have hwh := HWH.out i hi16 hi
          rw [hp16, hp15, hp7, hp2] at hwh
          have c16 := HW.out.ws.cell p16 (by omega)
          rw [if_pos (by omega)] at c16
          have c15 := HW.out.ws.cell p15 (by omega)
          rw [if_pos (by omega)] at c15
          have c7 := HW.out.ws.cell p7 (by omega)
          rw [if_pos (by omega)] at c7
          have c2 := HW.out.ws.cell p2 (by omega)
          rw [if_pos (by omega)] at c2
          have b16 := HWB.out p16
          have b15 := HWB.out p15
          have b7 := HWB.out p7
          have b2 := HWB.out p2
          have hci := HW.out.ws.cell i hi
          have hfz := HW.out.ws.frozen i
          rw [if_neg (by omega)] at hci
          have k16 : (p16 : Int) < 64 := by omega
          have k15 : (p15 : Int) < 64 := by omega
          have k7 : (p7 : Int) < 64 := by omega
          have k2 : (p2 : Int) < 64 := by omega
          have m16 : wrap64 ((i : Int) - 16) = (p16 : Int) := by unfold wrap64; omega
          have m15 : wrap64 ((i : Int) - 15) = (p15 : Int) := by unfold wrap64; omega
          have m7 : wrap64 ((i : Int) - 7) = (p7 : Int) := by unfold wrap64; omega
          have m2 : wrap64 ((i : Int) - 2) = (p2 : Int) := by unfold wrap64; omega
          have W16 : IntKind.i64.wrap (p16 : Int) = (p16 : Int) := IntWalk.i64_in _ (by omega)
          have W7 : IntKind.i64.wrap (p7 : Int) = (p7 : Int) := IntWalk.i64_in _ (by omega)
          have M16 : (i : Int) - 16 = (p16 : Int) := by omega
          have M15 : (i : Int) - 15 = (p15 : Int) := by omega
          have M7 : (i : Int) - 7 = (p7 : Int) := by omega
          have M2 : (i : Int) - 2 = (p2 : Int) := by omega
          obtain ⟨v, hv⟩ : ∃ v, co L i = v := ⟨_, rfl⟩
          rw [hv] at hwh HN
          generalize co L p16 = a16 at *
          generalize co L p15 = a15 at *
          generalize co L p7 = a7 at *
          generalize co L p2 = a2 at *
          unfold sg0 sg1 at hwh
          clear hp16 hp15 hp7 hp2 hv hig
          have b7' := tw_lt (n := 7) b15
          have b18 := tw_lt (n := 18) b15
          have b17 := tw_lt (n := 17) b2
          have b19 := tw_lt (n := 19) b2
          have HT7 := Lib.hid (fun W => show Calls Tryd.prog 66 #[.int .u32 (a15 : Int), .int .i64 7] W (fun e' w' => e' = .returned (.int .u32 ((tw a15 7 : Nat) : Int)) ∧ W = w') from HRT.out a15 7 W b15 (by decide) (by decide))
          have HT18 := Lib.hid (fun W => show Calls Tryd.prog 66 #[.int .u32 (a15 : Int), .int .i64 18] W (fun e' w' => e' = .returned (.int .u32 ((tw a15 18 : Nat) : Int)) ∧ W = w') from HRT.out a15 18 W b15 (by decide) (by decide))
          have HT17 := Lib.hid (fun W => show Calls Tryd.prog 66 #[.int .u32 (a2 : Int), .int .i64 17] W (fun e' w' => e' = .returned (.int .u32 ((tw a2 17 : Nat) : Int)) ∧ W = w') from HRT.out a2 17 W b2 (by decide) (by decide))
          have HT19 := Lib.hid (fun W => show Calls Tryd.prog 66 #[.int .u32 (a2 : Int), .int .i64 19] W (fun e' w' => e' = .returned (.int .u32 ((tw a2 19 : Nat) : Int)) ∧ W = w') from HRT.out a2 19 W b2 (by decide) (by decide))
          generalize tw a15 7 = r7 at *
          generalize tw a15 18 = r18 at *
          generalize tw a2 17 = r17 at *
          generalize tw a2 19 = r19 at *
          obtain ⟨d3, hd3⟩ : ∃ d, a15 / 8 = d := ⟨_, rfl⟩
          obtain ⟨d10, hd10⟩ : ∃ d, a2 / 1024 = d := ⟨_, rfl⟩
          obtain ⟨x1, hx1⟩ : ∃ x, r7 ^^^ r18 = x := ⟨_, rfl⟩
          obtain ⟨x2, hx2⟩ : ∃ x, x1 ^^^ d3 = x := ⟨_, rfl⟩
          obtain ⟨y1, hy1⟩ : ∃ x, r17 ^^^ r19 = x := ⟨_, rfl⟩
          obtain ⟨y2, hy2⟩ : ∃ x, y1 ^^^ d10 = x := ⟨_, rfl⟩
          rw [hd3, hd10, hx1, hx2, hy1, hy2] at hwh
          have bd3 : d3 < 4294967296 := by omega
          have bd10 : d10 < 4294967296 := by omega
          have bx1 : x1 < 4294967296 := by rw [← hx1]; exact Nat.xor_lt_two_pow (n := 32) b7' b18
          have bx2 : x2 < 4294967296 := by rw [← hx2]; exact Nat.xor_lt_two_pow (n := 32) bx1 bd3
          have by1 : y1 < 4294967296 := by rw [← hy1]; exact Nat.xor_lt_two_pow (n := 32) b17 b19
          have by2 : y2 < 4294967296 := by rw [← hy2]; exact Nat.xor_lt_two_pow (n := 32) by1 bd10
          have g1 : bits .xor .u32 (r7 : Int) (r18 : Int) = (x1 : Int) := by rw [u32_xor_nat r7 r18 b7' b18, hx1]
          have g2 : bits .xor .u32 (x1 : Int) (d3 : Int) = (x2 : Int) := by rw [u32_xor_nat x1 d3 bx1 bd3, hx2]
          have g3 : bits .xor .u32 (r17 : Int) (r19 : Int) = (y1 : Int) := by rw [u32_xor_nat r17 r19 b17 b19, hy1]
          have g4 : bits .xor .u32 (y1 : Int) (d10 : Int) = (y2 : Int) := by rw [u32_xor_nat y1 d10 by1 bd10, hy2]
          have t3 : (a15 : Int).tdiv 8 = (d3 : Int) := by rw [Int.tdiv_eq_ediv_of_nonneg (by omega)]; omega
          have t3' : (a15 : Int) / 8 = (d3 : Int) := by omega
          have t10 : (a2 : Int).tdiv 1024 = (d10 : Int) := by rw [Int.tdiv_eq_ediv_of_nonneg (by omega)]; omega
          have t10' : (a2 : Int) / 1024 = (d10 : Int) := by omega
          obtain ⟨u1, hu1⟩ : ∃ x, (a16 + x2) % 4294967296 = x := ⟨_, rfl⟩
          obtain ⟨u2, hu2⟩ : ∃ x, (u1 + a7) % 4294967296 = x := ⟨_, rfl⟩
          have w1 : IntKind.u32.wrap ((a16 : Int) + (x2 : Int)) = (u1 : Int) := by rw [IntKind.wrap_u32]; omega
          have w2 : IntKind.u32.wrap ((u1 : Int) + (a7 : Int)) = (u2 : Int) := by rw [IntKind.wrap_u32]; omega
          have w3 : IntKind.u32.wrap ((u2 : Int) + (y2 : Int)) = (v : Int) := by rw [IntKind.wrap_u32]; omega
          have bu1 : u1 < 4294967296 := by omega
          have bu2 : u2 < 4294967296 := by omega
          have HI16 := Lib.hid hi16
          clear hi16 hwh hd3 hd10 hx1 hx2 hy1 hy2 hu1 hu2
          go_wp2
          go_quiet (fail)
          generalize nq = q1
          have HN1 := Lib.hid (fun q => HN.out (q1 + q))
          have C16 : (wr.drewN q1).cell? ⟨g + 1 + 1, p16, none⟩ = some (.int .u32 (a16 : Int)) := c16
          have C7 : (wr.drewN q1).cell? ⟨g + 1 + 1, p7, none⟩ = some (.int .u32 (a7 : Int)) := c7
          have CI : (wr.drewN q1).cell? ⟨g + 1 + 1, i, none⟩ = some (.int .u32 ((0 : Nat) : Int)) := hci
          have FI : (wr.drewN q1).frozen? ⟨g + 1 + 1, i, none⟩ = false := hfz
          simp only [← World.drewN_drewN] at HN1
          generalize wr.drewN q1 = W1 at HN1 C16 C7 CI FI ⊢
          clear hci hfz c16 c15 c7 c2
          go_wp2_with fail
          refine (HT7.out _).mono ?_
          rintro e' w' ⟨rfl, rfl⟩
          go_wp2_with fail
          refine (HT18.out _).mono ?_
          rintro e' w' ⟨rfl, rfl⟩
          go_wp2_with fail
          refine (HT17.out _).mono ?_
          rintro e' w' ⟨rfl, rfl⟩
          go_wp2_with fail
          refine (HT19.out _).mono ?_
          rintro e' w' ⟨rfl, rfl⟩
          go_wp2
          refine wp_region_quiet_tail 15 (fun w' => ∃ q, w' = W1.drewN q) (by kernel_rfl) (by kernel_rfl) ⟨1, rfl⟩ ?_
          simp only [List.take_succ_cons, List.take_zero, List.drop_succ_cons, List.drop_zero]
          repeat (quiet_step (fail))
          refine wpQuiet_nil ?_
          rintro _ ⟨q2, rfl⟩
          go_wp2
          go_roundg gk
          case measure => omega
          case rel => exact ⟨i + 1, by have := HIG.out; omega, by have := HI16.out; omega, by go_num, HN1.out q2⟩
    | succ gk =>
      have hk : k < 64 := by omega
      have hkI : (k : Int) < 64 := by omega
      have hix := HIX.out k hk
      have hy8 := HB.out k
      obtain ⟨q, hq⟩ : ∃ q, k / 4 = q := ⟨_, rfl⟩
      have hq64 : q < 64 := by omega
      have hqI : (q : Int) < 64 := by omega
      have hc := HW.out.ws.cell q hq64
      have hfz := HW.out.ws.frozen q
      have hx24 := pws_lt HB.out k q hq
      have hn := HW.out.store HG.out q (pws B k q * 256 + B k)
      have HN := Lib.hid (hn.congr (fun j _ => pws_step B k q j hq))
      clear hn
      obtain ⟨x, hx⟩ : ∃ x, pws B k q = x := ⟨_, rfl⟩
      obtain ⟨y, hy⟩ : ∃ y, B k = y := ⟨_, rfl⟩
      rw [hx] at hc hx24 HN
      rw [hy] at hix hy8 HN
      obtain ⟨x8, hx8⟩ : ∃ v, x * 256 = v := ⟨_, rfl⟩
      obtain ⟨z, hz⟩ : ∃ v, x8 + y = v := ⟨_, rfl⟩
      rw [hx8, hz] at HN
      have e1 : (k : Int) / 4 = (q : Int) := by omega
      have e1' : (k : Int).tdiv 4 = (q : Int) := by rw [Int.tdiv_eq_ediv_of_nonneg (by omega)]; omega
      have e2 : IntKind.u32.wrap ((x : Int) * 256) = (x8 : Int) := by rw [IntKind.wrap_u32]; omega
      have e2' : (x : Int) * 256 = (x8 : Int) := by omega
      have e4 : (x8 : Int) % 4294967296 = (x8 : Int) := by omega
      have e3 : bits .or .u32 (x8 : Int) (y : Int) = (z : Int) := by rw [u32_or_nat x8 y (by omega) (by omega), ← hx8, or_byte x y hy8, hx8, hz]
      clear hq hx hy hx8 hz hkg hx24
      go_wp2
      go_roundg gk
      case measure => omega
      case rel => exact ⟨k + 1, by have := HKG.out; omega, by go_num, HN.out⟩
end Go.Proofs.YtjifionpblpfoaaDoor

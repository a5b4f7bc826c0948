/-
  Part 5 of the texts that the seat's proofs stand on; each part of it begins with its own sentence and conditions. Conditions: those that each theorem names.
-/
import Derived.Test.YtjifionpblpfoaaDoorBlindPack4
import Derived.Laws.CopyOwn
import Derived.Test.YtjifionpblpfoaaDoorProg
import Derived.StillTail
import Derived.Deep.Quiet
import Derived.Deep.QuietTactic
import Derived.BigQuiet
import Derived.KernelRfl
import Derived.StillTailTactics
import Derived.Lib.Hide

/-
  What the laws of layer 16 that encode, decode and name envelopes stand on, over any code. Conditions: those of EnvCd.
-/
namespace Go.Proofs.YtjifionpblpfoaaDoor
open Go.RowKit
open Pol (co Sm)

/-- An envelope's bytes, in bytes of the call's own, and the error's number. -/
def EncO (o : Ev) (w : World) (e : Ending) (w' : World) : Prop := ∃ v, e = .returned (.tuple #[v, .int .i64 ((o.chk : Nat) : Int)]) ∧ Mine w' w.heap.size v o.bytes ∧ Ext w w'
/-- The envelope of bytes, whose body is in bytes of the call's own, and the error's number. -/
def DecO (b : List Nat) (w : World) (e : Ending) (w' : World) : Prop :=
  ∃ v, e = .returned (.tuple #[.agg #[.int .i64 (dec16 b).2.s, .int .u64 (((dec16 b).2.n : Nat) : Int), .int .u64 (((dec16 b).2.f : Nat) : Int), .int .u64 (((dec16 b).2.x : Nat) : Int), v], .int .i64 (((dec16 b).1 : Nat) : Int)]) ∧ Mine w' w.heap.size v (dec16 b).2.b ∧ Ext w w'
structure EnvCd : Prop where
  enc : ∀ (s : Int) (n f x k c : Nat) (b : List Nat) (A : Option Addr) (w : World), b.length = k → k ≤ c → Rd w A b → k ≤ 65536 → n < 18446744073709551616 → f < 18446744073709551616 → x < 18446744073709551616 →
    Calls Tryd.prog 9 #[evv s n f x A k c] w (EncO ⟨s, n, f, x, b⟩ w)
  dec : ∀ (b : List Nat) (A : Option Addr) (n c : Nat) (w : World), b.length = n → n ≤ c → Rd w A b → n ≤ 65536 → Calls Tryd.prog 10 #[.slice A n c] w (DecO b w)
  id : ∀ (s : Int) (n f x k c : Nat) (b : List Nat) (A : Option Addr) (w : World), GL w → b.length = k → k ≤ c → Rd w A b → k ≤ 65536 → n < 18446744073709551616 → f < 18446744073709551616 → x < 18446744073709551616 →
    Calls Tryd.prog 16 #[evv s n f x A k c] w (DgS (idv sha ⟨s, n, f, x, b⟩) w)
theorem Ev.bytes_sm {o : Ev} (h : Sm o.b) : Sm o.bytes := by
  unfold Ev.bytes
  split
  · exact Ev.enc_sm h
  · exact Sm.nil
theorem Ev.bytes_ok {o : Ev} (h : o.ok) : o.bytes = o.enc := if_pos h
theorem Ev.bytes_no {o : Ev} (h : ¬ o.ok) : o.bytes = [] := if_neg h
theorem Ev.bytes_len {o : Ev} (h : o.Fit) : o.bytes.length ≤ 64 := by
  by_cases ho : o.ok
  · rw [Ev.bytes_ok ho]
    exact (Ev.enc_len ho h).2
  · rw [Ev.bytes_no ho]
    exact Nat.zero_le _
theorem dec16_fit {b : List Nat} (hs : Sm b) : (dec16 b).2.Fit ∧ (dec16 b).2.b.length ≤ 32 := by
  by_cases h : (dec16 b).1 = 0
  · obtain ⟨h1, _, h3⟩ := dec16_ok hs h
    exact ⟨h3, h1.2.2.2.2⟩
  · have hz : (dec16 b).2 = Ev.zero := by
      unfold dec16 at h ⊢
      cases h1 : rdE b with
      | er n => rfl
      | ok e rest =>
        rw [h1] at h
        dsimp only at h ⊢
        split
        · rfl
        · split
          · rfl
          · rename_i h2 h3
            rw [if_neg h2, if_neg h3] at h
            exact absurd rfl h
    rw [hz]
    exact ⟨⟨by decide, by decide, by decide, Sm.nil⟩, Nat.zero_le _⟩
theorem idv_32 (e : Ev) : (idv sha e).length = 32 := by
  unfold idv
  split
  · exact sha_len _
  · exact List.length_replicate
theorem idv_sm (e : Ev) : Sm (idv sha e) := by
  unfold idv
  split
  · exact sha_sm _
  · intro i
    unfold co
    rw [List.getElem?_replicate]
    split <;> decide
end Go.Proofs.YtjifionpblpfoaaDoor

/-
  Under some pad an envelope opens to any order that is short enough, in plain numbers. Conditions: none; no function is named here.
-/
namespace Go.Proofs.YtjifionpblpfoaaDoor
open Go.RowKit
open Pol (co Sm)

theorem blind16 {e : Ev} {o : Od} (he : e.chk = 0) (ho : o.right) (ha : o.a < 18446744073709551616) (hf : FillOk o.bytes.length (e.b.length : Int)) :
    open16 e (lx (fil o.bytes e.b.length) e.b) = (0, o) ∧ make16 e.s e.n e.f e.x o (lx (fil o.bytes e.b.length) e.b) = (0, e) := by
  have hlt : o.bytes.length < e.b.length := by have := hf.2.2; omega
  have hl : (lx (fil o.bytes e.b.length) e.b).length = e.b.length := by rw [lx_len, fil_len]
  have hxx : lx (fil o.bytes e.b.length) (lx (fil o.bytes e.b.length) e.b) = e.b := lx_pad _ _ (fil_len _ _)
  have hcom : lx e.b (lx (fil o.bytes e.b.length) e.b) = fil o.bytes e.b.length := by
    refine Lin.list_ext (by rw [lx_len, fil_len]) fun i hi => ?_
    rw [lx_len] at hi
    rw [co_lx _ _ _ hi, co_lx _ _ _ (by rw [fil_len]; exact hi), Nat.xor_comm, Nat.xor_assoc, Nat.xor_self, Nat.xor_zero]
  constructor
  · unfold open16
    rw [if_neg (by simpa using he), if_neg (by simpa using hl), hcom, if_neg (by simpa using fil_tail hlt), fil_strp hlt]
    have hd : dec14 o.bytes = (0, o) := by unfold Od.bytes; rw [if_pos ho]; exact dec_enc ho ha
    rw [hd, if_neg (by simp)]
  · unfold make16
    rw [if_neg (by simpa using ho), hl, if_neg (by simpa using hf), hxx]
    have hc : (Ev.mk e.s e.n e.f e.x e.b).chk = 0 := he
    rw [hc, if_neg (by simp)]
end Go.Proofs.YtjifionpblpfoaaDoor

/-
  Two orders: are they one? Two slices of bytes: are they alike? Conditions: no more than 2^20 bytes.
-/
namespace Go.Proofs.YtjifionpblpfoaaDoor
open Go.RowKit
open Pol (co Sm)

theorem same14 (l m : List Nat) (A B : Option Addr) (n n' ca cb : Nat) (w : World) (hn : l.length = n) (hn' : m.length = n') (ha : Rd w A l) (hb : Rd w B m) (hl : n ≤ 1048576) :
    Calls Tryd.prog 15 #[.slice A n ca, .slice B n' cb] w (Tells (.bool (decide (l = m))) w) := by
  subst hn hn'
  by_cases h : l = m
  · rw [decide_eq_true h]
    subst h
    exact same_tells l A B ca cb w ha hb hl
  · rw [decide_eq_false h]
    exact (same_no l m A B ca cb w ha hb hl h).mono fun _ _ h => h.tells
theorem Od.eq_iff {o p : Od} : o = p ↔ o.k = p.k ∧ o.t = p.t ∧ o.a = p.a ∧ o.m = p.m := by
  constructor
  · rintro rfl; exact ⟨rfl, rfl, rfl, rfl⟩
  · obtain ⟨k, t, a, m⟩ := o
    obtain ⟨k', t', a', m'⟩ := p
    rintro ⟨h1, h2, h3, h4⟩
    dsimp only at h1 h2 h3 h4
    subst h1 h2 h3 h4
    rfl
instance : DecidableEq Od := fun _ _ => decidable_of_iff _ Od.eq_iff.symm
end Go.Proofs.YtjifionpblpfoaaDoor

/-
  The law's own same of layer 16: are two orders alike? Conditions: no more than 2^20 bytes.
-/
namespace Go.Proofs.YtjifionpblpfoaaDoor
open Go.RowKit
open Pol (co Sm)

set_option maxHeartbeats 1600000 in
theorem law16_same (k t k' t' : Int) (a n c a' n' c' : Nat) (m m' : List Nat) (A A' : Option Addr) (w : World) (hn : m.length = n) (hn' : m'.length = n') (hr : Rd w A m) (hr' : Rd w A' m') (hl : n ≤ 1048576) :
    Calls Tryd.prog 24 #[.agg #[.int .i64 k, .int .i64 t, .int .u64 (a : Int), .slice A n c], .agg #[.int .i64 k', .int .i64 t', .int .u64 (a' : Int), .slice A' n' c']] w (Tells (.bool (decide ((⟨k, t, a, m⟩ : Od) = ⟨k', t', a', m'⟩))) w) := by
  by_cases h1 : k = k'
  · subst h1
    by_cases h2 : t = t'
    · subst h2
      by_cases h3 : a = a'
      · subst h3
        have HX := Lib.hid (((Ext.refl w).alloc (.cells #[.int .i64 k, .int .i64 t, .int .u64 (a : Int), .slice A n c] 50)).alloc (.cells #[.int .i64 k, .int .i64 t, .int .u64 (a : Int), .slice A' n' c'] 46))
        have HS := Lib.hid (same14 m m' A A' n n' c c' _ hn hn' (hr.ext HX.out) (hr'.ext HX.out) hl)
        rw [show decide ((⟨k, t, a, m⟩ : Od) = ⟨k, t, a, m'⟩) = decide (m = m') from decide_eq_decide.2 ⟨fun h => by injection h, fun h => by rw [h]⟩]
        clear hr hr' hl
        generalize decide (m = m') = q at *
        go_enter Tryd.func24, Tryd.ntmps24
        go_wp2_with fail
        refine HS.out.mono ?_
        rintro e w1 ⟨rfl, hx⟩
        have HX1 := Lib.hid (HX.out.trans hx)
        clear hx
        go_wp2
        go_ret
        exact ⟨rfl, HX1.out⟩
      · rw [decide_eq_false (show ¬ ((⟨k, t, a, m⟩ : Od) = ⟨k, t, a', m'⟩) from fun h => h3 (by injection h))]
        have t3 : ((a : Int) == (a' : Int)) = false := by simp; omega
        clear hr hr' hl
        go_enter Tryd.func24, Tryd.ntmps24
        go_wp2
        go_ret
        exact ⟨rfl, ((Ext.refl w).alloc _).alloc _⟩
    · rw [decide_eq_false (show ¬ ((⟨k, t, a, m⟩ : Od) = ⟨k, t', a', m'⟩) from fun h => h2 (by injection h))]
      have t3 : (t == t') = false := by simp; omega
      clear hr hr' hl
      go_enter Tryd.func24, Tryd.ntmps24
      go_wp2
      go_ret
      exact ⟨rfl, ((Ext.refl w).alloc _).alloc _⟩
  · rw [decide_eq_false (show ¬ ((⟨k, t, a, m⟩ : Od) = ⟨k', t', a', m'⟩) from fun h => h1 (by injection h))]
    have t3 : (k == k') = false := by simp; omega
    clear hr hr' hl
    go_enter Tryd.func24, Tryd.ntmps24
    go_wp2
    go_ret
    exact ⟨rfl, ((Ext.refl w).alloc _).alloc _⟩
end Go.Proofs.YtjifionpblpfoaaDoor

/-
  A load of a whole value that stays, in a walk by wp_region_stab. Conditions: those of stab_yes.
-/
namespace Go.Proofs.YtjifionpblpfoaaDoor
open Go

section
variable {P : Program} {C : World → Prop} {Q : Exit → Act → World → Prop}
theorem stab_load {F : Nat → Bool} {l : List Oper} {i : Nat} {o : Oper} {π : List (Nat × Bool)} {a : Act} {w : World} (ho : l[i]? = some o) (ty : TypeId) (x : Operand) (hop : o.op = .load ty x) (v : Value)
    (hw : Region.wanted o (yielded l.toArray a.tmps) = true) (hrun : ∀ W, C W → (Instr.loadAt ty (a.eval x)).run P W = .ok v W) (h : wpStab P l C F Q π (a.put o.dst v) w) : wpStab P l C F Q ((i, true) :: π) a w :=
  stab_yes ho (fun _ hK => ⟨hw, v, fun W hW => by simp only [execOp, hop, Sem.run_bind, hrun W hW, Result.andThen, Sem.run_pure], hK _ h⟩)
/-- An operation under a guard that is false. -/
theorem stab_no {F : Nat → Bool} {l : List Oper} {i : Nat} {o : Oper} {π : List (Nat × Bool)} {a : Act} {w : World} (ho : l[i]? = some o) (h : ∀ K : Act → Prop, (∀ a', wpStab P l C F Q π a' w → K a') → Region.wanted o (yielded l.toArray a.tmps) = false ∧ K (a.put o.dst undef)) : wpStab P l C F Q ((i, true) :: π) a w := by
  obtain ⟨h1, h2⟩ := h (fun a' => wpStab P l C F Q π a' w) (fun _ h => h)
  exact ⟨o, undef, ho, .inr (.inl ⟨h1, rfl⟩), h2⟩
end
end Go.Proofs.YtjifionpblpfoaaDoor

/-
  A whole envelope loaded. Conditions: none.
-/
namespace Go.Proofs.YtjifionpblpfoaaDoor
open Go.RowKit
open Pol (co Sm)

theorem load_ev16 {w : World} {g : Nat} {a b c d e : Value} {t : TypeId} {fr : Nat × Nat} (hg : w.heap[g]? = some (.cells #[a, b, c, d, e] t fr)) : (Instr.loadAt 25 (.pointer (some ⟨g, 0, none⟩))).run Tryd.prog w = .ok (.agg #[a, b, c, d, e]) w := by
  simp only [Instr.loadAt, Instr.sureAddr, Sem.run_bind, Sem.run_pure, Result.andThen]
  exact run_loadVar_row w g t _ _ fr _ hg Tryd.underlying25 rfl ev_in16
end Go.Proofs.YtjifionpblpfoaaDoor

/-
  A load of a whole array, under a guard. Conditions: none; no function is named here.
-/
namespace Go.Proofs.YtjifionpblpfoaaDoor
open Go.RowKit

theorem wpList_load_row_g {P : Program} {ops : Array Oper} {rest : List Oper} {o : Oper} {a : Act} {w : World} {Q : Exit → Act → World → Prop} (hgd : Region.wanted o (yielded ops a.tmps) = true) (ty : TypeId) (x : Operand) (ho : o.op = .load ty x)
    (g : Nat) (hx : a.eval x = .pointer (some ⟨g, 0, none⟩)) (t : TypeId) (cs : Array Value) (fr : Nat × Nat) (d : TypeDesc) (hg : w.heap[g]? = some (.cells cs t fr))
    (hu : P.underlying ty = some d) (hd : (match d with | .struct _ | .array _ _ => true | _ => false) = true) (hi : (P.info? ty).map (·.size) = some cs.size)
    (h : wpList P ops Q rest (a.put o.dst (.agg cs)) w) : wpList P ops Q (o :: rest) a w := by
  unfold wpList
  rw [if_pos hgd]
  exact .inl (wp_load_row ty x ho g hx t cs fr d hg hu hd hi h)
theorem wpIf_load_row {P : Program} {ops : Array Oper} {o : Oper} {a : Act} {w : World} {K : Act → World → Prop} {Q : Exit → Act → World → Prop} {E : Prop} (hgd : Region.wanted o (yielded ops a.tmps) = true) (ty : TypeId) (x : Operand) (ho : o.op = .load ty x)
    (g : Nat) (hx : a.eval x = .pointer (some ⟨g, 0, none⟩)) (t : TypeId) (cs : Array Value) (fr : Nat × Nat) (d : TypeDesc) (hg : w.heap[g]? = some (.cells cs t fr))
    (hu : P.underlying ty = some d) (hd : (match d with | .struct _ | .array _ _ => true | _ => false) = true) (hi : (P.info? ty).map (·.size) = some cs.size)
    (h : K (a.put o.dst (.agg cs)) w) : if Region.wanted o (yielded ops a.tmps) = true then Oper.wp P o a w K Q else E := by
  rw [if_pos hgd]
  exact wp_load_row ty x ho g hx t cs fr d hg hu hd hi h
end Go.Proofs.YtjifionpblpfoaaDoor

/-
  EnvelopeBlind, walked. Conditions: those of EnvMk, EnvCd.
-/
namespace Go.Proofs.YtjifionpblpfoaaDoor
open Go.RowKit
open Pol (co Sm)

theorem load_tx16 {w : World} {g : Nat} {a b c d : Value} {t : TypeId} {fr : Nat × Nat} (hg : w.heap[g]? = some (.cells #[a, b, c, d] t fr)) : (Instr.loadAt 46 (.pointer (some ⟨g, 0, none⟩))).run Tryd.prog w = .ok (.agg #[a, b, c, d]) w := by
  simp only [Instr.loadAt, Instr.sureAddr, Sem.run_bind, Sem.run_pure, Result.andThen]
  exact run_loadVar_row w g t _ _ fr _ hg Tryd.underlying46 rfl tx_in16
theorem load_tx16x {w : World} {g : Nat} {a b c d : Value} {t : TypeId} {fr : Nat × Nat} (hg : w.heap[g]? = some (.cells #[a, b, c, d] t fr)) : (Instr.loadAt 50 (.pointer (some ⟨g, 0, none⟩))).run Tryd.prog w = .ok (.agg #[a, b, c, d]) w := by
  simp only [Instr.loadAt, Instr.sureAddr, Sem.run_bind, Sem.run_pure, Result.andThen]
  exact run_loadVar_row w g t _ _ fr _ hg Tryd.underlying50 rfl tx_in16x
set_option maxHeartbeats 12800000 in
set_option maxRecDepth 100000 in
theorem blind16_walk (M : EnvMk) (C : EnvCd) (s kk tt : Int) (nn f x k c a n cm : Nat) (b m : List Nat) (A D : Option Addr) (w : World) (hgl : GL w)
    (hb : b.length = k) (hbc : k ≤ c) (hr : Rd w A b) (hm : m.length = n) (hmc : n ≤ cm) (hq : Rd w D m) (h1 : nn < 18446744073709551616) (h2 : f < 18446744073709551616) (h3 : x < 18446744073709551616) (h4 : a < 18446744073709551616) :
    Calls Tryd.prog 5 #[evv s nn f x A k c, .agg #[.int .i64 kk, .int .i64 tt, .int .u64 (a : Int), .slice D n cm]] w (Holds w) := by
  have hx0 := ((Ext.refl w).alloc (.cells #[.int .i64 s, .int .u64 (nn : Int), .int .u64 (f : Int), .int .u64 (x : Int), .slice A k c] 25)).alloc (.cells #[.int .i64 kk, .int .i64 tt, .int .u64 (a : Int), .slice D n cm] 46)
  have HX := Lib.hid hx0
  have HG := Lib.hid (show ((w.alloc (.cells #[.int .i64 s, .int .u64 (nn : Int), .int .u64 (f : Int), .int .u64 (x : Int), .slice A k c] 25)).alloc (.cells #[.int .i64 kk, .int .i64 tt, .int .u64 (a : Int), .slice D n cm] 46)).heap[w.heap.size]? = some (.cells #[.int .i64 s, .int .u64 (nn : Int), .int .u64 (f : Int), .int .u64 (x : Int), .slice A k c] 25) from by
    rw [heap_alloc_old _ _ (by simp)]
    exact heap_alloc_new w _)
  have HT := Lib.hid (show ((w.alloc (.cells #[.int .i64 s, .int .u64 (nn : Int), .int .u64 (f : Int), .int .u64 (x : Int), .slice A k c] 25)).alloc (.cells #[.int .i64 kk, .int .i64 tt, .int .u64 (a : Int), .slice D n cm] 46)).heap[w.heap.size + 1]? = some (.cells #[.int .i64 kk, .int .i64 tt, .int .u64 (a : Int), .slice D n cm] 46) from by
    have h := heap_alloc_new (w.alloc (.cells #[.int .i64 s, .int .u64 (nn : Int), .int .u64 (f : Int), .int .u64 (x : Int), .slice A k c] 25)) (.cells #[.int .i64 kk, .int .i64 tt, .int .u64 (a : Int), .slice D n cm] 46)
    rwa [show (w.alloc (.cells #[.int .i64 s, .int .u64 (nn : Int), .int .u64 (f : Int), .int .u64 (x : Int), .slice A k c] 25)).heap.size = w.heap.size + 1 from by simp] at h)
  have HRB := Lib.hid (hr.ext hx0)
  have HRM := Lib.hid (hq.ext hx0)
  have HGL := Lib.hid (hgl.ext hx0)
  have HAW := Lib.hid (fun u (_ : Ext w u) => awake16 M u)
  clear hx0
  by_cases u : 100 < k
  · have u1 : decide ((k : Int) > 100) = true := decide_eq_true (by omega)
    have u2 : decide (100 < (k : Int)) = true := decide_eq_true (by omega)
    clear HRB HRM HGL hr hq hgl M C
    go_enter Tryd.func5, Tryd.ntmps5
    go_wp2_with fail
    refine (HAW.out _ HX.out).mono ?_
    rintro e w1 ⟨rfl, hx⟩
    replace HX := Lib.hid (HX.out.trans (hx))
    replace HG := Lib.hid ((hx).row HG.out)
    replace HT := Lib.hid ((hx).row HT.out)
    have g4 := cell_of_row _ _ 4 _ _ _ HG.out
    have t3 := cell_of_row _ _ 3 _ _ _ HT.out
    clear hx
    go_wp2_with fail
    refine (HAW.out _ HX.out).mono ?_
    rintro e w2 ⟨rfl, hx⟩
    replace HX := Lib.hid (HX.out.trans (hx))
    replace HG := Lib.hid ((hx).row HG.out)
    replace HT := Lib.hid ((hx).row HT.out)
    clear hx
    go_wp2
    go_ret
    exact ⟨rfl, HX.out⟩
  have u1 : decide ((k : Int) > 100) = false := decide_eq_false (by omega)
  have u2 : decide (100 < (k : Int)) = false := decide_eq_false (by omega)
  by_cases v : 100 < n
  · have v1 : decide ((n : Int) > 100) = true := decide_eq_true (by omega)
    have v2 : decide (100 < (n : Int)) = true := decide_eq_true (by omega)
    clear HRB HRM HGL hr hq hgl M C
    go_enter Tryd.func5, Tryd.ntmps5
    go_wp2_with fail
    refine (HAW.out _ HX.out).mono ?_
    rintro e w1 ⟨rfl, hx⟩
    replace HX := Lib.hid (HX.out.trans (hx))
    replace HG := Lib.hid ((hx).row HG.out)
    replace HT := Lib.hid ((hx).row HT.out)
    have g4 := cell_of_row _ _ 4 _ _ _ HG.out
    have t3 := cell_of_row _ _ 3 _ _ _ HT.out
    clear hx
    go_wp2_with fail
    refine (HAW.out _ HX.out).mono ?_
    rintro e w2 ⟨rfl, hx⟩
    replace HX := Lib.hid (HX.out.trans (hx))
    replace HG := Lib.hid ((hx).row HG.out)
    replace HT := Lib.hid ((hx).row HT.out)
    clear hx
    go_wp2
    go_ret
    exact ⟨rfl, HX.out⟩
  have v1 : decide ((n : Int) > 100) = false := decide_eq_false (by omega)
  have v2 : decide (100 < (n : Int)) = false := decide_eq_false (by omega)
  have HRC := Lib.hid (fun u => ref16_check s nn f x k c b A u hb)
  have hOK := Ev.chk_ok (e := ⟨s, nn, f, x, b⟩)
  obtain ⟨ck, hck⟩ : ∃ q, Ev.chk ⟨s, nn, f, x, b⟩ = q := ⟨_, rfl⟩
  rw [hck] at HRC hOK
  by_cases hk0 : ck = 0
  rotate_left
  · skip
    have d1 : ((ck : Int) == 0) = false := by simp; omega
    have d2 : ((ck : Int) != 0) = true := by simp; omega
    have d3 : decide ((ck : Int) = 0) = false := decide_eq_false (by omega)
    have d4 : decide (ck = 0) = false := decide_eq_false (by omega)
    clear hk0 hr hq hgl M C HRB HRM HGL hck hOK hb hm
    go_enter Tryd.func5, Tryd.ntmps5
    go_wp2_with fail
    refine (HAW.out _ HX.out).mono ?_
    rintro e w1 ⟨rfl, hx⟩
    replace HX := Lib.hid (HX.out.trans (hx))
    replace HG := Lib.hid ((hx).row HG.out)
    replace HT := Lib.hid ((hx).row HT.out)
    have g4 := cell_of_row _ _ 4 _ _ _ HG.out
    have t3 := cell_of_row _ _ 3 _ _ _ HT.out
    clear hx
    go_wp2_with (refine wpList_load_row_g (by first | rfl | go_simp) 25 (.tmp 2) rfl (w.heap.size) rfl 25 #[.int .i64 s, .int .u64 (nn : Int), .int .u64 (f : Int), .int .u64 (x : Int), .slice A k c] (0, 0) _ HG.out Tryd.underlying25 rfl ev_in16 ?_)
    refine (HRC.out _).mono ?_
    rintro e wc ⟨rfl, hx⟩
    replace HX := Lib.hid (HX.out.trans (hx))
    replace HG := Lib.hid ((hx).row HG.out)
    replace HT := Lib.hid ((hx).row HT.out)
    clear hx
    go_wp2_with fail
    refine (HAW.out _ HX.out).mono ?_
    rintro e w2 ⟨rfl, hx⟩
    replace HX := Lib.hid (HX.out.trans (hx))
    replace HG := Lib.hid ((hx).row HG.out)
    replace HT := Lib.hid ((hx).row HT.out)
    clear hx
    go_wp2
    go_ret
    exact ⟨rfl, HX.out⟩
  subst hk0
  have hok := hOK.1 rfl
  have hk1 : 1 ≤ k := by have h := hok.2.2.2.1; dsimp only at h; rw [hb] at h; exact h
  have hk2 : k ≤ 32 := by have h := hok.2.2.2.2; dsimp only at h; rw [hb] at h; exact h
  have HEN := Lib.hid (fun u (hu : Ext w u) => ref14_encode kk tt a n cm m D u hm (hq.ext hu) (by omega) h4)
  have HSO := Lib.hid (Od.bytes_sm (o := ⟨kk, tt, a, m⟩) hq.1)
  have hbl := Od.bytes_len (o := ⟨kk, tt, a, m⟩) h4
  have hrc := fun h : Od.right ⟨kk, tt, a, m⟩ => (show Od.code ⟨kk, tt, a, m⟩ = 0 from by unfold Od.code; rw [if_pos h])
  have hnc := fun h : ¬ Od.right ⟨kk, tt, a, m⟩ => (show Od.code ⟨kk, tt, a, m⟩ = 1 from by unfold Od.code; rw [if_neg h])
  have hBL := fun ho hf => blind16 (e := ⟨s, nn, f, x, b⟩) (o := ⟨kk, tt, a, m⟩) hck ho h4 hf
  dsimp only at hBL
  rw [hb] at hBL
  unfold EncR at HEN
  obtain ⟨BO, hBO⟩ : ∃ q, Od.bytes ⟨kk, tt, a, m⟩ = q := ⟨_, rfl⟩
  rw [hBO] at HEN HSO hbl hBL
  obtain ⟨nb, hnb⟩ : ∃ q, BO.length = q := ⟨_, rfl⟩
  have HNB := Lib.hid hnb
  by_cases ho : Od.right ⟨kk, tt, a, m⟩
  rotate_left
  · rw [hnc ho] at HEN
    obtain ⟨yy, LL, hfi⟩ : ∃ (yy : Nat) (LL : List Nat), ∀ u B1 c1, Rd u B1 BO → Calls Tryd.prog 21 #[.slice B1 nb c1, .int .i64 (k : Int)] u (GivesE LL (yy : Int) u) := by
      by_cases hf : FillOk BO.length (k : Int)
      · exact ⟨0, _, fun u B1 c1 h => by have := ref_fill BO k B1 c1 u h hf; rwa [hnb] at this⟩
      · exact ⟨6, _, fun u B1 c1 h => by have := ref_fill_no BO.length (k : Int) B1 c1 u hf; rwa [hnb] at this⟩
    unfold GivesE at hfi
    have HFI := Lib.hid hfi
    clear hfi
    clear hr hq hgl M C HRM hck hOK hok hb hm hbl hrc hnc hBL hBO hnb ho HSO
    go_enter Tryd.func5, Tryd.ntmps5
    go_wp2_with fail
    refine (HAW.out _ HX.out).mono ?_
    rintro e w1 ⟨rfl, hx⟩
    replace HX := Lib.hid (HX.out.trans (hx))
    replace HG := Lib.hid ((hx).row HG.out)
    replace HT := Lib.hid ((hx).row HT.out)
    replace HRB := Lib.hid (HRB.out.ext (hx))
    replace HGL := Lib.hid (HGL.out.ext (hx))
    have g4 := cell_of_row _ _ 4 _ _ _ HG.out
    have t3 := cell_of_row _ _ 3 _ _ _ HT.out
    clear hx
    go_wp2_with (refine wpList_load_row_g (by first | rfl | go_simp) 25 (.tmp 2) rfl (w.heap.size) rfl 25 #[.int .i64 s, .int .u64 (nn : Int), .int .u64 (f : Int), .int .u64 (x : Int), .slice A k c] (0, 0) _ HG.out Tryd.underlying25 rfl ev_in16 ?_)
    refine (HRC.out _).mono ?_
    rintro e wc ⟨rfl, hx⟩
    replace HX := Lib.hid (HX.out.trans (hx))
    replace HG := Lib.hid ((hx).row HG.out)
    replace HT := Lib.hid ((hx).row HT.out)
    replace HRB := Lib.hid (HRB.out.ext (hx))
    replace HGL := Lib.hid (HGL.out.ext (hx))
    clear hx
    go_wp2_with (with_reducible refine wpList_load_row rfl 46 (.tmp 3) rfl (w.heap.size + 1) rfl 46 #[.int .i64 kk, .int .i64 tt, .int .u64 (a : Int), .slice D n cm] (0, 0) _ HT.out Tryd.underlying46 rfl tx_in16 ?_)
    refine (HEN.out _ HX.out).mono ?_
    rintro e w2 ⟨hx, B1, n1, c1, rfl, hn1, hc1, hr1⟩
    replace HX := Lib.hid (HX.out.trans (hx))
    replace HG := Lib.hid ((hx).row HG.out)
    replace HT := Lib.hid ((hx).row HT.out)
    replace HRB := Lib.hid (HRB.out.ext (hx))
    replace HGL := Lib.hid (HGL.out.ext (hx))
    clear hx g4 t3
    obtain rfl : nb = n1 := HNB.out.symm.trans hn1
    have HR1 := Lib.hid hr1
    clear hr1 hn1
    have g4 := cell_of_row _ _ 4 _ _ _ HG.out
    go_wp2_with fail
    refine (HFI.out _ B1 c1 HR1.out).mono ?_
    rintro e w3 ⟨v3, rfl, hs, hx⟩
    replace HX := Lib.hid (HX.out.trans (hx))
    replace HG := Lib.hid ((hx).row HG.out)
    replace HT := Lib.hid ((hx).row HT.out)
    replace HRB := Lib.hid (HRB.out.ext (hx))
    replace HGL := Lib.hid (HGL.out.ext (hx))
    replace HR1 := Lib.hid (HR1.out.ext (hx))
    clear hs hx g4
    go_wp2
    go_ret
    exact ⟨rfl, HX.out⟩
  rw [hrc ho] at HEN
  by_cases hf : FillOk BO.length (k : Int)
  rotate_left
  · have HFI := Lib.hid (fun u B1 c1 (h : Rd u B1 BO) => show Calls Tryd.prog 21 #[.slice B1 nb c1, .int .i64 (k : Int)] u (GivesE [] 6 u) from by have := ref_fill_no BO.length (k : Int) B1 c1 u hf; rwa [hnb] at this)
    unfold GivesE at HFI
    clear hr hq hgl M C HRM hck hOK hok hb hm hbl hrc hnc hBL hBO hnb ho HSO hf
    go_enter Tryd.func5, Tryd.ntmps5
    go_wp2_with fail
    refine (HAW.out _ HX.out).mono ?_
    rintro e w1 ⟨rfl, hx⟩
    replace HX := Lib.hid (HX.out.trans (hx))
    replace HG := Lib.hid ((hx).row HG.out)
    replace HT := Lib.hid ((hx).row HT.out)
    replace HRB := Lib.hid (HRB.out.ext (hx))
    replace HGL := Lib.hid (HGL.out.ext (hx))
    have g4 := cell_of_row _ _ 4 _ _ _ HG.out
    have t3 := cell_of_row _ _ 3 _ _ _ HT.out
    clear hx
    go_wp2_with (refine wpList_load_row_g (by first | rfl | go_simp) 25 (.tmp 2) rfl (w.heap.size) rfl 25 #[.int .i64 s, .int .u64 (nn : Int), .int .u64 (f : Int), .int .u64 (x : Int), .slice A k c] (0, 0) _ HG.out Tryd.underlying25 rfl ev_in16 ?_)
    refine (HRC.out _).mono ?_
    rintro e wc ⟨rfl, hx⟩
    replace HX := Lib.hid (HX.out.trans (hx))
    replace HG := Lib.hid ((hx).row HG.out)
    replace HT := Lib.hid ((hx).row HT.out)
    replace HRB := Lib.hid (HRB.out.ext (hx))
    replace HGL := Lib.hid (HGL.out.ext (hx))
    clear hx
    go_wp2_with (with_reducible refine wpList_load_row rfl 46 (.tmp 3) rfl (w.heap.size + 1) rfl 46 #[.int .i64 kk, .int .i64 tt, .int .u64 (a : Int), .slice D n cm] (0, 0) _ HT.out Tryd.underlying46 rfl tx_in16 ?_)
    refine (HEN.out _ HX.out).mono ?_
    rintro e w2 ⟨hx, B1, n1, c1, rfl, hn1, hc1, hr1⟩
    replace HX := Lib.hid (HX.out.trans (hx))
    replace HG := Lib.hid ((hx).row HG.out)
    replace HT := Lib.hid ((hx).row HT.out)
    replace HRB := Lib.hid (HRB.out.ext (hx))
    replace HGL := Lib.hid (HGL.out.ext (hx))
    clear hx g4 t3
    obtain rfl : nb = n1 := HNB.out.symm.trans hn1
    have HR1 := Lib.hid hr1
    clear hr1 hn1
    have g4 := cell_of_row _ _ 4 _ _ _ HG.out
    go_wp2_with fail
    refine (HFI.out _ B1 c1 HR1.out).mono ?_
    rintro e w3 ⟨v3, rfl, hs, hx⟩
    replace HX := Lib.hid (HX.out.trans (hx))
    replace HG := Lib.hid ((hx).row HG.out)
    replace HT := Lib.hid ((hx).row HT.out)
    replace HRB := Lib.hid (HRB.out.ext (hx))
    replace HGL := Lib.hid (HGL.out.ext (hx))
    replace HR1 := Lib.hid (HR1.out.ext (hx))
    clear hs hx g4
    go_wp2
    go_ret
    exact ⟨rfl, HX.out⟩
  have HFI := Lib.hid (fun u B1 c1 (h : Rd u B1 BO) => show Calls Tryd.prog 21 #[.slice B1 nb c1, .int .i64 (k : Int)] u (GivesE (fil BO k) 0 u) from by have := ref_fill BO k B1 c1 u h hf; rwa [hnb] at this)
  unfold GivesE Sl at HFI
  obtain ⟨hB1, hB2⟩ := hBL ho hf
  have HFL := Lib.hid (fil_len BO k)
  have HSF := fil_sm (m := k) HSO.out (by have := hf.2.2; omega)
  obtain ⟨FF, hFF⟩ : ∃ q, fil BO k = q := ⟨_, rfl⟩
  rw [hFF] at HFI HFL HSF hB1 hB2
  have HPP := Lib.hid (show tab k (fun j => co FF j ^^^ co b j) = lx FF b from by unfold lx; rw [HFL.out])
  have HSP := Lib.hid (lx_sm HSF hr.1)
  have HPL := Lib.hid ((lx_len FF b).trans HFL.out)
  obtain ⟨PP, hPP⟩ : ∃ q, lx FF b = q := ⟨_, rfl⟩
  rw [hPP] at HPP HSP HPL hB1 hB2
  have HBK := Lib.hid hb
  have HCC := Lib.hid hbc
  have HOP := Lib.hid (fun u (hu : Ext w u) B1 c1 (g1 : k ≤ c1) (g2 : Rd u B1 PP) => M.opens s nn f x k c b PP A B1 k c1 u hb hbc (hr.ext hu) (by omega) HPL.out g1 g2 (by omega) h1 h2 h3)
  have HMK := Lib.hid (fun u (hu : Ext w u) B1 c1 (g1 : k ≤ c1) (g2 : Rd u B1 PP) => M.make s nn f x kk tt a n cm m PP D B1 k c1 u hm hmc (hq.ext hu) (by omega) h4 HPL.out g1 g2 (by omega) h1 h2 h3)
  rw [hB1] at HOP
  rw [hB2] at HMK
  unfold OdR at HOP
  unfold EvR at HMK
  dsimp only at HOP HMK
  have HLS := Lib.hid (fun u (hu : Ext w u) B1 n1 c1 (g1 : m.length = n1) (g2 : Rd u B1 m) => law16_same kk tt kk tt a n1 c1 a n cm m m B1 D u g1 hm g2 (hq.ext hu) (by omega))
  rw [show decide ((⟨kk, tt, a, m⟩ : Od) = ⟨kk, tt, a, m⟩) = true from decide_eq_true rfl] at HLS
  have HSS := Lib.hid (fun u (hu : Ext w u) B1 c1 (g2 : Rd u B1 b) => ref16_same s s nn f x k c1 nn f x k c b b B1 A u hb hb g2 (hr.ext hu) (by omega))
  rw [show decide (Ev.Same ⟨s, nn, f, x, b⟩ ⟨s, nn, f, x, b⟩) = true from decide_eq_true ⟨rfl, rfl, rfl, rfl, rfl⟩] at HSS
  have HID := Lib.hid (fun u B1 c1 (g1 : k ≤ c1) (hg : GL u) (g2 : Rd u B1 b) => C.id s nn f x k c1 b B1 u hg hb g1 g2 (by omega) h1 h2 h3)
  unfold DgS at HID
  clear hr hq hgl M C HRM hck hOK hok hb hm hbl hrc hnc hBL hBO hnb ho HSO hf hB1 hB2 HSF hFF hPP
  go_enter Tryd.func5, Tryd.ntmps5
  go_wp2_with fail
  refine (HAW.out _ HX.out).mono ?_
  rintro e w1 ⟨rfl, hx⟩
  replace HX := Lib.hid (HX.out.trans (hx))
  replace HG := Lib.hid ((hx).row HG.out)
  replace HT := Lib.hid ((hx).row HT.out)
  replace HRB := Lib.hid (HRB.out.ext (hx))
  replace HGL := Lib.hid (HGL.out.ext (hx))
  have g4 := cell_of_row _ _ 4 _ _ _ HG.out
  have t3 := cell_of_row _ _ 3 _ _ _ HT.out
  clear hx
  go_wp2_with (refine wpList_load_row_g (by first | rfl | go_simp) 25 (.tmp 2) rfl (w.heap.size) rfl 25 #[.int .i64 s, .int .u64 (nn : Int), .int .u64 (f : Int), .int .u64 (x : Int), .slice A k c] (0, 0) _ HG.out Tryd.underlying25 rfl ev_in16 ?_)
  refine (HRC.out _).mono ?_
  rintro e wc ⟨rfl, hx⟩
  replace HX := Lib.hid (HX.out.trans (hx))
  replace HG := Lib.hid ((hx).row HG.out)
  replace HT := Lib.hid ((hx).row HT.out)
  replace HRB := Lib.hid (HRB.out.ext (hx))
  replace HGL := Lib.hid (HGL.out.ext (hx))
  clear hx
  go_wp2_with (with_reducible refine wpList_load_row rfl 46 (.tmp 3) rfl (w.heap.size + 1) rfl 46 #[.int .i64 kk, .int .i64 tt, .int .u64 (a : Int), .slice D n cm] (0, 0) _ HT.out Tryd.underlying46 rfl tx_in16 ?_)
  refine (HEN.out _ HX.out).mono ?_
  rintro e w2 ⟨hx, B1, n1, c1, rfl, hn1, hc1, hr1⟩
  replace HX := Lib.hid (HX.out.trans (hx))
  replace HG := Lib.hid ((hx).row HG.out)
  replace HT := Lib.hid ((hx).row HT.out)
  replace HRB := Lib.hid (HRB.out.ext (hx))
  replace HGL := Lib.hid (HGL.out.ext (hx))
  clear hx g4 t3
  obtain rfl : nb = n1 := HNB.out.symm.trans hn1
  have HR1 := Lib.hid hr1
  clear hr1 hn1
  have g4 := cell_of_row _ _ 4 _ _ _ HG.out
  go_wp2_with fail
  refine (HFI.out _ B1 c1 HR1.out).mono ?_
  rintro e w3 ⟨v3, rfl, hs, hx⟩
  replace HX := Lib.hid (HX.out.trans (hx))
  replace HG := Lib.hid ((hx).row HG.out)
  replace HT := Lib.hid ((hx).row HT.out)
  replace HRB := Lib.hid (HRB.out.ext (hx))
  replace HGL := Lib.hid (HGL.out.ext (hx))
  replace HR1 := Lib.hid (HR1.out.ext (hx))
  clear hx g4
  obtain ⟨B3, c3, rfl, hc3, hr3⟩ := hs
  rw [HFL.out] at hc3 ⊢
  have HR3 := Lib.hid hr3
  have HC3 := Lib.hid hc3
  clear hr3 hc3
  clear HR1
  obtain ⟨w5, hw5⟩ : ∃ q, q = w3 := ⟨_, rfl⟩
  subst hw5
  go_wp2
  go_loopg [9, 56] k (fun g s9 s56 wx => ∃ i : Nat, i + g = k ∧ s56 = .int .i64 (i : Int) ∧ Ext w5 wx ∧ Mine wx w5.heap.size s9 (tab i fun j => co FF j ^^^ co b j))
  case atStart => exact ⟨0, by omega, rfl, Ext.refl _, Mine.nil _ _⟩
  case round =>
    obtain ⟨i, hig, rfl, hx, hmi⟩ := hrel
    replace HX := Lib.hid (HX.out.trans (hx))
    replace HG := Lib.hid ((hx).row HG.out)
    replace HT := Lib.hid ((hx).row HT.out)
    replace HRB := Lib.hid (HRB.out.ext (hx))
    replace HGL := Lib.hid (HGL.out.ext (hx))
    replace HR3 := Lib.hid (HR3.out.ext (hx))
    have HXL := Lib.hid hx
    have HMI := Lib.hid hmi
    clear hx hmi
    cases gk with
    | zero =>
      obtain rfl : k = i := by omega
      clear hig
      have hpm := HMI.out
      rw [HPP.out] at hpm
      obtain ⟨B9, c9, rfl, hc9, hr9⟩ := hpm.slice HSP.out
      rw [HPL.out] at hc9 ⊢
      have HR9 := Lib.hid hr9
      clear hpm hr9 HXL HMI
      go_wp2_with (with_reducible refine wpList_load_row rfl 25 (.tmp 2) rfl (w.heap.size) rfl 25 #[.int .i64 s, .int .u64 (nn : Int), .int .u64 (f : Int), .int .u64 (x : Int), .slice A k c] (0, 0) _ HG.out Tryd.underlying25 rfl ev_in16 ?_)
      refine (HOP.out _ HX.out B9 c9 hc9 HR9.out).mono ?_
      rintro e w6 ⟨hx, B6, n6, c6, rfl, hn6, hc6, hr6⟩
      replace HX := Lib.hid (HX.out.trans (hx))
      replace HG := Lib.hid ((hx).row HG.out)
      replace HT := Lib.hid ((hx).row HT.out)
      replace HRB := Lib.hid (HRB.out.ext (hx))
      replace HGL := Lib.hid (HGL.out.ext (hx))
      replace HR3 := Lib.hid (HR3.out.ext (hx))
      replace HR9 := Lib.hid (HR9.out.ext (hx))
      have HN6 := Lib.hid hn6
      have hxa := (Ext.refl w6).alloc (.cells #[.int .i64 kk, .int .i64 tt, .int .u64 (a : Int), .slice B6 n6 c6] 50)
      replace HX := Lib.hid (HX.out.trans (hxa))
      replace HG := Lib.hid ((hxa).row HG.out)
      replace HT := Lib.hid ((hxa).row HT.out)
      replace HRB := Lib.hid (HRB.out.ext (hxa))
      replace HGL := Lib.hid (HGL.out.ext (hxa))
      replace HR3 := Lib.hid (HR3.out.ext (hxa))
      replace HR9 := Lib.hid (HR9.out.ext (hxa))
      have HO6 := Lib.hid (heap_alloc_new w6 (.cells #[.int .i64 kk, .int .i64 tt, .int .u64 (a : Int), .slice B6 n6 c6] 50))
      have HR6 := Lib.hid (hr6.ext hxa)
      clear hr6 hn6 hx hxa
      have g0 := cell_of_row _ _ 0 _ _ _ HG.out
      have g1 := cell_of_row _ _ 1 _ _ _ HG.out
      have g2 := cell_of_row _ _ 2 _ _ _ HG.out
      have g3 := cell_of_row _ _ 3 _ _ _ HG.out
      go_wp2_with (with_reducible refine wpList_load_row rfl 46 (.tmp 3) rfl (w.heap.size + 1) rfl 46 #[.int .i64 kk, .int .i64 tt, .int .u64 (a : Int), .slice D n cm] (0, 0) _ HT.out Tryd.underlying46 rfl tx_in16 ?_)
      refine (HMK.out _ HX.out B9 c9 hc9 HR9.out).mono ?_
      rintro e w7 ⟨hx, B7, n7, c7, rfl, hn7, hc7, hr7⟩
      replace HX := Lib.hid (HX.out.trans (hx))
      replace HG := Lib.hid ((hx).row HG.out)
      replace HT := Lib.hid ((hx).row HT.out)
      replace HRB := Lib.hid (HRB.out.ext (hx))
      replace HGL := Lib.hid (HGL.out.ext (hx))
      replace HR3 := Lib.hid (HR3.out.ext (hx))
      replace HR9 := Lib.hid (HR9.out.ext (hx))
      replace HO6 := Lib.hid ((hx).row HO6.out)
      replace HR6 := Lib.hid (HR6.out.ext (hx))
      obtain rfl : k = n7 := HBK.out.symm.trans hn7
      have HC7 := Lib.hid hc7
      have hxa := (Ext.refl w7).alloc (.cells #[.int .i64 s, .int .u64 (nn : Int), .int .u64 (f : Int), .int .u64 (x : Int), .slice B7 k c7] 25)
      replace HX := Lib.hid (HX.out.trans (hxa))
      replace HG := Lib.hid ((hxa).row HG.out)
      replace HT := Lib.hid ((hxa).row HT.out)
      replace HRB := Lib.hid (HRB.out.ext (hxa))
      replace HGL := Lib.hid (HGL.out.ext (hxa))
      replace HR3 := Lib.hid (HR3.out.ext (hxa))
      replace HR9 := Lib.hid (HR9.out.ext (hxa))
      replace HO6 := Lib.hid ((hxa).row HO6.out)
      replace HR6 := Lib.hid (HR6.out.ext (hxa))
      have HA7 := Lib.hid (heap_alloc_new w7 (.cells #[.int .i64 s, .int .u64 (nn : Int), .int .u64 (f : Int), .int .u64 (x : Int), .slice B7 k c7] 25))
      have HR7 := Lib.hid (hr7.ext hxa)
      clear hr7 hn7 hc7 hx hxa g0 g1 g2 g3
      go_wp2
      generalize w7.alloc (.cells #[.int .i64 s, .int .u64 (nn : Int), .int .u64 (f : Int), .int .u64 (x : Int), .slice B7 k c7] 25) = w8 at *
      have L1 := Lib.hid (fun (W : World) (h : Ext w8 W) => show (Instr.loadAt 50 (.pointer (some ⟨w6.heap.size, 0, none⟩))).run Tryd.prog W = .ok (.agg #[.int .i64 kk, .int .i64 tt, .int .u64 (a : Int), .slice B6 n6 c6]) W from load_tx16x (h.row HO6.out))
      have L2 := Lib.hid (fun (W : World) (h : Ext w8 W) => show (Instr.loadAt 46 (.pointer (some ⟨w.heap.size + 1, 0, none⟩))).run Tryd.prog W = .ok (.agg #[.int .i64 kk, .int .i64 tt, .int .u64 (a : Int), .slice D n cm]) W from load_tx16 (h.row HT.out))
      have L3 := Lib.hid (fun (W : World) (h : Ext w8 W) => show (Instr.loadAt 25 (.pointer (some ⟨w7.heap.size, 0, none⟩))).run Tryd.prog W = .ok (.agg #[.int .i64 s, .int .u64 (nn : Int), .int .u64 (f : Int), .int .u64 (x : Int), .slice B7 k c7]) W from load_ev16 (h.row HA7.out))
      have L4 := Lib.hid (fun (W : World) (h : Ext w8 W) => show (Instr.loadAt 25 (.pointer (some ⟨w.heap.size, 0, none⟩))).run Tryd.prog W = .ok (.agg #[.int .i64 s, .int .u64 (nn : Int), .int .u64 (f : Int), .int .u64 (x : Int), .slice A k c]) W from load_ev16 (h.row HG.out))
      clear HO6 HT HA7 HG HR9
      refine wp_region_stab (Ext w8) [0, 1, 2, 3, 4, 5, 6, 7, 8, 9, 10, 11, 12, 13, 14, 15, 16, 17, 18, 19, 20, 21, 22, 23] [(0, true), (1, true), (2, true), (3, true), (4, true), (5, false), (6, true), (7, true), (8, true), (9, true), (10, true), (11, true), (12, true), (13, true), (14, false), (15, true), (16, true), (17, true), (19, true), (18, false), (20, false), (21, true), (22, true), (23, false)] (by kernel_rfl) (fun c a a' w e h => ⟨e ▸ h.1, h.2⟩) (by kernel_rfl) (Ext.refl w8).drew ?_
      have hdr := (Ext.refl w8).drew
      replace HX := Lib.hid (HX.out.trans (hdr))
      replace HRB := Lib.hid (HRB.out.ext (hdr))
      replace HGL := Lib.hid (HGL.out.ext (hdr))
      replace HR3 := Lib.hid (HR3.out.ext (hdr))
      replace HR6 := Lib.hid (HR6.out.ext (hdr))
      replace HR7 := Lib.hid (HR7.out.ext (hdr))
      have HXC := Lib.hid hdr
      generalize w8.drew = W0 at *
      clear hdr
      refine stab_yes rfl (fun K hK => ?_); go_simp; refine ⟨_, fun _ _ => rfl, hK _ ?_⟩; clear hK K
      refine stab_yes rfl (fun K hK => ?_); go_simp; refine ⟨_, fun _ _ => rfl, hK _ ?_⟩; clear hK K
      refine stab_yes rfl (fun K hK => ?_); go_simp; refine ⟨_, fun _ _ => rfl, hK _ ?_⟩; clear hK K
      refine stab_load rfl 50 (.tmp 11) rfl (.agg #[.int .i64 kk, .int .i64 tt, .int .u64 (a : Int), .slice B6 n6 c6]) (by first | rfl | go_simp) (fun W hW => L1.out W hW) ?_
      refine stab_load rfl 46 (.tmp 3) rfl (.agg #[.int .i64 kk, .int .i64 tt, .int .u64 (a : Int), .slice D n cm]) (by first | rfl | go_simp) (fun W hW => L2.out W hW) ?_
      refine stab_one rfl (fun K hK => ?_)
      go_wp2_with fail
      refine (HLS.out _ HX.out B6 n6 c6 HN6.out HR6.out).mono ?_
      rintro e w9 ⟨rfl, hx⟩
      replace HX := Lib.hid (HX.out.trans (hx))
      replace HRB := Lib.hid (HRB.out.ext (hx))
      replace HGL := Lib.hid (HGL.out.ext (hx))
      replace HR3 := Lib.hid (HR3.out.ext (hx))
      replace HR6 := Lib.hid (HR6.out.ext (hx))
      replace HR7 := Lib.hid (HR7.out.ext (hx))
      replace HXC := Lib.hid (HXC.out.trans (hx))
      clear hx
      go_wp2_with fail
      refine ⟨fun _ => HXC.out, ?_⟩
      refine stab_yes rfl (fun K hK => ?_); go_simp; refine ⟨_, fun _ _ => rfl, hK _ ?_⟩; clear hK K
      refine stab_yes rfl (fun K hK => ?_); go_simp; refine ⟨_, fun _ _ => rfl, hK _ ?_⟩; clear hK K
      refine stab_yes rfl (fun K hK => ?_); go_simp; refine ⟨_, fun _ _ => rfl, hK _ ?_⟩; clear hK K
      refine stab_yes rfl (fun K hK => ?_); go_simp; refine ⟨_, fun _ _ => rfl, hK _ ?_⟩; clear hK K
      refine stab_yes rfl (fun K hK => ?_); go_simp; refine ⟨_, fun _ _ => rfl, hK _ ?_⟩; clear hK K
      refine stab_yes rfl (fun K hK => ?_); go_simp; refine ⟨_, fun _ _ => rfl, hK _ ?_⟩; clear hK K
      refine stab_load rfl 25 (.tmp 13) rfl (.agg #[.int .i64 s, .int .u64 (nn : Int), .int .u64 (f : Int), .int .u64 (x : Int), .slice B7 k c7]) (by first | rfl | go_simp) (fun W hW => L3.out W hW) ?_
      refine stab_load rfl 25 (.tmp 2) rfl (.agg #[.int .i64 s, .int .u64 (nn : Int), .int .u64 (f : Int), .int .u64 (x : Int), .slice A k c]) (by first | rfl | go_simp) (fun W hW => L4.out W hW) ?_
      refine stab_one rfl (fun K hK => ?_)
      go_wp2_with fail
      refine (HSS.out _ HX.out B7 c7 HR7.out).mono ?_
      rintro e w10 ⟨rfl, hx⟩
      replace HX := Lib.hid (HX.out.trans (hx))
      replace HRB := Lib.hid (HRB.out.ext (hx))
      replace HGL := Lib.hid (HGL.out.ext (hx))
      replace HR3 := Lib.hid (HR3.out.ext (hx))
      replace HR6 := Lib.hid (HR6.out.ext (hx))
      replace HR7 := Lib.hid (HR7.out.ext (hx))
      replace HXC := Lib.hid (HXC.out.trans (hx))
      clear hx
      go_wp2_with fail
      refine ⟨fun _ => HXC.out, ?_⟩
      refine stab_yes rfl (fun K hK => ?_); go_simp; refine ⟨_, fun _ _ => rfl, hK _ ?_⟩; clear hK K
      refine stab_yes rfl (fun K hK => ?_); go_simp; refine ⟨_, fun _ _ => rfl, hK _ ?_⟩; clear hK K
      refine stab_load rfl 25 (.tmp 13) rfl (.agg #[.int .i64 s, .int .u64 (nn : Int), .int .u64 (f : Int), .int .u64 (x : Int), .slice B7 k c7]) (by first | rfl | go_simp) (fun W hW => L3.out W hW) ?_
      refine stab_load rfl 25 (.tmp 2) rfl (.agg #[.int .i64 s, .int .u64 (nn : Int), .int .u64 (f : Int), .int .u64 (x : Int), .slice A k c]) (by first | rfl | go_simp) (fun W hW => L4.out W hW) ?_
      refine stab_one rfl (fun K hK => ?_)
      go_wp2_with fail
      refine (HID.out _ B7 c7 HC7.out HGL.out HR7.out).mono ?_
      rintro e w11 ⟨V, rfl, hV, hx⟩
      replace HX := Lib.hid (HX.out.trans (hx))
      replace HRB := Lib.hid (HRB.out.ext (hx))
      replace HGL := Lib.hid (HGL.out.ext (hx))
      replace HR3 := Lib.hid (HR3.out.ext (hx))
      replace HR6 := Lib.hid (HR6.out.ext (hx))
      replace HR7 := Lib.hid (HR7.out.ext (hx))
      replace HXC := Lib.hid (HXC.out.trans (hx))
      clear hx
      go_wp2_with fail
      refine ⟨fun _ => HXC.out, ?_⟩
      refine stab_one rfl (fun K hK => ?_)
      go_wp2_with fail
      refine (HID.out _ A c HCC.out HGL.out HRB.out).mono ?_
      rintro e w12 ⟨V2, rfl, hV2, hx⟩
      replace HX := Lib.hid (HX.out.trans (hx))
      replace HRB := Lib.hid (HRB.out.ext (hx))
      replace HGL := Lib.hid (HGL.out.ext (hx))
      replace HR3 := Lib.hid (HR3.out.ext (hx))
      replace HR6 := Lib.hid (HR6.out.ext (hx))
      replace HR7 := Lib.hid (HR7.out.ext (hx))
      replace HXC := Lib.hid (HXC.out.trans (hx))
      have hq := run_eq_dgc hV hV2 (idv_32 _) (idv_32 _) (idv_sm _) (idv_sm _)
      rw [decide_eq_true rfl] at hq
      clear hx
      go_wp2_with fail
      refine ⟨fun _ => HXC.out, ?_⟩
      refine stab_yes rfl (fun K hK => ?_); go_simp; refine ⟨_, fun _ _ => rfl, hK _ ?_⟩; clear hK K
      refine stab_yes rfl (fun K hK => ?_); go_simp; refine ⟨_, fun _ _ => rfl, hK _ ?_⟩; clear hK K
      refine stab_one rfl (fun K hK => ?_)
      go_wp2_with fail
      refine ⟨fun _ => HXC.out, ?_⟩
      clear HXC
      unfold wpStab
      go_wp2
      go_ret
      exact ⟨rfl, HX.out⟩
    | succ g =>
      have hi : i < k := by omega
      have hiI : (i : Int) < (k : Int) := by omega
      obtain ⟨b1, o1, e1, hc1⟩ := HR3.out.2 i (by rw [HFL.out]; exact hi)
      obtain ⟨b2, o2, e2, hc2⟩ := HRB.out.2 i (by rw [HBK.out]; exact hi)
      have y1 := HR3.out.1 i
      have y2 := HRB.out.1 i
      have hxx := u8_xor_nat _ _ y1 y2
      have hlt := Gf.xor_lt _ _ y1 y2
      have HIG := Lib.hid hig
      have hst := tab_succ i fun j => co FF j ^^^ co b j
      have HST := Lib.hid hst
      have HTL := Lib.hid (tab_len i fun j => co FF j ^^^ co b j)
      clear hig y1 y2 hst
      obtain ⟨T1, hT1⟩ : ∃ T1, tab (i + 1) (fun j => co FF j ^^^ co b j) = T1 := ⟨_, rfl⟩
      have HT1 := Lib.hid hT1.symm
      rw [hT1] at HST
      clear hT1
      generalize tab i (fun j => co FF j ^^^ co b j) = T at *
      obtain ⟨zz, hz⟩ : ∃ z, co FF i ^^^ co b i = z := ⟨_, rfl⟩
      rw [hz] at HST hlt hxx
      clear hz
      generalize co FF i = p at *
      generalize co b i = q at *
      have g4 := cell_of_row _ _ 4 _ _ _ HG.out
      subst e1 e2
      go_wp2
      have hB := (Ext.refl wr).drew
      refine wp_region_stab (Ext wr) [0, 1, 2, 3, 4, 5, 6, 7, 8, 9, 10, 11] [(0, true), (1, true), (2, true), (3, true), (4, true), (5, true), (6, true), (7, true), (8, true), (9, true), (10, true), (11, false), (12, false), (13, false)] (by kernel_rfl) (fun c a a' w e h => ⟨e ▸ h.1, h.2⟩) (by kernel_rfl) hB ?_
      refine stab_yes rfl (fun K hK => ?_); go_simp; refine ⟨_, fun _ _ => rfl, hK _ ?_⟩; clear hK K
      refine stab_yes rfl (fun K hK => ?_); go_simp; refine ⟨_, fun _ _ => rfl, hK _ ?_⟩; clear hK K
      refine stab_yes rfl (fun K hK => ?_); go_simp; refine ⟨_, fun _ _ => rfl, hK _ ?_⟩; clear hK K
      refine stab_yes rfl (fun K hK => ?_); go_simp; refine ⟨_, fun _ _ => rfl, hK _ ?_⟩; clear hK K
      refine stab_yes rfl (fun K hK => ?_); go_simp; refine ⟨.int .u8 (p : Int), fun W hW => ?_, hK _ ?_⟩
      · have h1 := Ext.at hW hc1
        go_simp
      clear hK K
      refine stab_yes rfl (fun K hK => ?_); go_simp; refine ⟨_, fun _ _ => rfl, hK _ ?_⟩; clear hK K
      refine stab_yes rfl (fun K hK => ?_); go_simp; refine ⟨.slice (some ⟨b2, o2, none⟩) k c, fun W hW => ?_, hK _ ?_⟩
      · have h1 := Ext.at hW g4
        go_simp
      clear hK K
      refine stab_yes rfl (fun K hK => ?_); go_simp; refine ⟨_, fun _ _ => rfl, hK _ ?_⟩; clear hK K
      refine stab_yes rfl (fun K hK => ?_); go_simp; refine ⟨_, fun _ _ => rfl, hK _ ?_⟩; clear hK K
      refine stab_yes rfl (fun K hK => ?_); go_simp; refine ⟨.int .u8 (q : Int), fun W hW => ?_, hK _ ?_⟩
      · have h1 := Ext.at hW hc2
        go_simp
      clear hK K
      refine stab_yes rfl (fun K hK => ?_); go_simp; refine ⟨.int .u8 (zz : Int), fun _ _ => rfl, hK _ ?_⟩; clear hK K
      have HXQ := Lib.hid (HXL.out.trans hB)
      have HMQ := Lib.hid (mine_ext HMI.out hB)
      have HBQ := Lib.hid hB
      clear hc1 hc2 g4 hB
      generalize wr.drew = wq at *
      have HY := Lib.hid (rd_one wq zz hlt)
      refine stab_one rfl (fun K hK => ?_)
      go_wp2
      refine ⟨by first | exact HBQ.out.alloc _ | exact fun _ => HBQ.out.alloc _, ?_⟩
      refine stab_one rfl (fun K hK => ?_)
      go_wp2_with (first | (at_builtin; refine wpList_append_rd rfl (.tmp 59) (.tmp 70) rfl w5.heap.size _ T [zz] rfl (mine_ext HMQ.out ((Ext.refl _).alloc _)) (some ⟨wq.heap.size, 0, none⟩) 1 1 rfl rfl HY.out (by rw [HTL.out]; simp; omega) ((HXQ.out.alloc _).size) ?_; intro v2 w2 hv2 hg2 _; rw [← HST.out] at hv2; have HV2 := Lib.hid hv2; have HX2 := Lib.hid ((HXQ.out.alloc _).more hg2 (fun k e => (HMQ.out.block k e).1)); clear hv2 hg2) | fail)
      refine ⟨fun h => absurd h (by decide), ?_⟩
      refine stab_one rfl (fun K hK => ?_)
      go_wp2
      refine ⟨fun h => absurd h (by decide), ?_⟩
      unfold wpStab
      go_wp2
      go_roundg g
      case measure => omega
      case rel => exact ⟨i + 1, by have := HIG.out; omega, by go_num, HX2.out, by have h := HV2.out; rwa [HT1.out] at h⟩
end Go.Proofs.YtjifionpblpfoaaDoor

/-
  The code's own Check of layer 16. Conditions: none.
-/
namespace Go.Proofs.YtjifionpblpfoaaDoor
open Go.RowKit
open Pol (co Sm)

set_option maxHeartbeats 1600000 in
theorem ev_check (s : Int) (n f x k c : Nat) (b : List Nat) (A : Option Addr) (w : World) (hk : b.length = k) :
    Calls Tryd.prog 14 #[evv s n f x A k c] w (Tells (.int .i64 ((Ev.chk ⟨s, n, f, x, b⟩ : Nat) : Int)) w) := by
  unfold Ev.chk
  dsimp only
  rw [hk]
  clear hk
  by_cases h1 : s < 0
  · have d1 : decide (s < 0) = true := decide_eq_true h1
    rw [if_pos (.inl h1)]
    go_enter Tryd.func14, Tryd.ntmps14
    go_wp2
    go_ret
    exact ⟨rfl, (Ext.refl _).alloc _⟩
  have d1 : decide (s < 0) = false := decide_eq_false h1
  by_cases h2 : 6 ≤ s
  · have d2 : decide (s ≥ 6) = true := decide_eq_true h2
    have d2' : decide (6 ≤ s) = true := decide_eq_true h2
    rw [if_pos (.inr h2)]
    go_enter Tryd.func14, Tryd.ntmps14
    go_wp2
    go_ret
    exact ⟨rfl, (Ext.refl _).alloc _⟩
  have d2 : decide (s ≥ 6) = false := decide_eq_false h2
  have d2' : decide (6 ≤ s) = false := decide_eq_false h2
  rw [if_neg (by omega)]
  by_cases h3 : 1152921504606846976 < f
  · have d3 : decide ((f : Int) > 1152921504606846976) = true := decide_eq_true (by omega)
    have d3' : decide ((1152921504606846976 : Int) < (f : Int)) = true := decide_eq_true (by omega)
    rw [if_pos h3]
    go_enter Tryd.func14, Tryd.ntmps14
    go_wp2
    go_ret
    exact ⟨rfl, (Ext.refl _).alloc _⟩
  have d3 : decide ((f : Int) > 1152921504606846976) = false := decide_eq_false (by omega)
  have d3' : decide ((1152921504606846976 : Int) < (f : Int)) = false := decide_eq_false (by omega)
  rw [if_neg h3]
  by_cases h4 : k < 1
  · have d4 : decide ((k : Int) < 1) = true := decide_eq_true (by omega)
    rw [if_pos (.inl h4)]
    go_enter Tryd.func14, Tryd.ntmps14
    go_wp2
    go_ret
    exact ⟨rfl, (Ext.refl _).alloc _⟩
  have d4 : decide ((k : Int) < 1) = false := decide_eq_false (by omega)
  by_cases h5 : 32 < k
  · have d5 : decide ((k : Int) > 32) = true := decide_eq_true (by omega)
    have d5' : decide ((32 : Int) < (k : Int)) = true := decide_eq_true (by omega)
    rw [if_pos (.inr h5)]
    go_enter Tryd.func14, Tryd.ntmps14
    go_wp2
    go_ret
    exact ⟨rfl, (Ext.refl _).alloc _⟩
  have d5 : decide ((k : Int) > 32) = false := decide_eq_false (by omega)
  have d5' : decide ((32 : Int) < (k : Int)) = false := decide_eq_false (by omega)
  rw [if_neg (by omega)]
  go_enter Tryd.func14, Tryd.ntmps14
  go_wp2
  go_ret
  exact ⟨rfl, (Ext.refl _).alloc _⟩
end Go.Proofs.YtjifionpblpfoaaDoor

/-
  The builtin copy of bytes to the front of a block of the call's own. Conditions: the block is at least as long.
-/
namespace Go.Proofs.YtjifionpblpfoaaDoor
open Go.RowKit
open Pol (co Sm)

/-- A copy of bytes to the front of a block of the call's own. -/
theorem splice_bt (n : Nat) (f : Nat → Nat) (a : List Nat) (h : a.length ≤ n) : (splice (bt n f).toList 0 (bv a)).toArray = bt n (fun i => if i < a.length then co a i else f i) := by
  apply Array.ext
  · simp [splice, bv_len, bt_size]; omega
  · intro i h1 h2
    have hi : i < n := by rwa [bt_size] at h2
    rw [← Option.some_inj, ← Array.getElem?_eq_getElem, ← Array.getElem?_eq_getElem, bt_at _ _ _ hi]
    simp only [splice, List.take_zero, List.nil_append, Nat.zero_add, List.getElem?_toArray, bv_len]
    by_cases hia : i < a.length
    · rw [List.getElem?_append_left (by rw [bv_len]; exact hia), bv_at a i hia, if_pos hia]
    · rw [List.getElem?_append_right (by rw [bv_len]; omega), List.getElem?_drop, bv_len, if_neg hia, show a.length + (i - a.length) = i from by omega]
      have := bt_at n f i hi
      simpa using this
theorem wpList_copy_blk {ops : Array Oper} {rest : List Oper} {o : Oper} {act : Act} {w : World} {Q : Exit → Act → World → Prop} (hgd : o.guard = none) (d s : Operand)
    (ho : o.op = .call { callee := .builtin .copy, args := #[d, s], argTypes := #[23, 23] }) (g n dc : Nat) (f : Nat → Nat) (hd : act.eval d = .slice (some ⟨g, 0, none⟩) n dc) (hb : Blk w g n f)
    (A : Option Addr) (a : List Nat) (k c : Nat) (hs : act.eval s = .slice A k c) (hk : a.length = k) (hr : Rd w A a) (hn : k ≤ n) (w0 : World) (hx : Ext w0 w) (hg : w0.heap.size ≤ g)
    (h : ∀ w', Hid (Blk w' g n (fun i => if i < a.length then co a i else f i)) → Ext w0 w' → wpList Tryd.prog ops Q rest (act.put o.dst (goInt k)) w') :
    wpList Tryd.prog ops Q (o :: rest) act w := by
  subst hk
  refine wpList_copy_splice hgd d s 23 23 ho 5 Tryd.underlying23 (by kernel_rfl) _ A n dc a.length c hd hs g 0 (bt n f).toList 5 (by unfold Blk at hb; simpa using hb) (bv a) (by rw [bv_len]; exact (Nat.min_eq_left hn).symm)
    (fun hp => ⟨rfl, ?_⟩) (by simp [bv_len, bt_size]; omega) (bv_one a) w0.heap.size w0 hx.below hg ?_
  · rw [bv_len] at hp
    obtain ⟨b, o', e, hc⟩ := hr.addr hp
    refine ⟨_, e, fun j v hj => ?_⟩
    have hj' : j < a.length := by
      have := (List.getElem?_eq_some_iff.1 hj).1
      rwa [bv_len] at this
    rw [addr_add, hc j hj', ← bv_at a j hj', hj]
  · intro w' HG hB
    rw [bv_len]
    refine h w' (Lib.hid ?_) ⟨hB⟩
    unfold Blk
    rw [HG.out, splice_bt n f a hn]
end Go.Proofs.YtjifionpblpfoaaDoor

/-
  What Fill of layer 6 does. Conditions: no more than 2^12 bytes.
-/
namespace Go.Proofs.YtjifionpblpfoaaDoor
open Go.RowKit
open Pol (co Sm)

/-- A copy of bytes somewhere into a block of the call's own. -/
theorem splice_at (n off : Nat) (f : Nat → Nat) (a : List Nat) (h : off + a.length ≤ n) : (splice (bt n f).toList off (bv a)).toArray = bt n (fun i => if off ≤ i ∧ i < off + a.length then co a (i - off) else f i) := by
  apply Array.ext
  · simp [splice, bv_len, bt_size]; omega
  · intro i h1 h2
    have hi : i < n := by rwa [bt_size] at h2
    have hl : (bt n f).toList.length = n := by simp [bt_size]
    have hb : ∀ j, j < n → (bt n f).toList[j]? = some (.int .u8 ((f j : Nat) : Int)) := fun j hj => by simpa using bt_at n f j hj
    rw [← Option.some_inj, ← Array.getElem?_eq_getElem, ← Array.getElem?_eq_getElem, bt_at _ _ _ hi]
    simp only [splice, List.getElem?_toArray, bv_len]
    by_cases h1 : i < off
    · rw [List.getElem?_append_left (by rw [List.length_take, hl]; omega), List.getElem?_take, if_pos h1, if_neg (by omega), hb i hi]
    · rw [List.getElem?_append_right (by rw [List.length_take, hl]; omega), List.length_take, hl, Nat.min_eq_left (by omega)]
      by_cases hia : i - off < a.length
      · rw [List.getElem?_append_left (by rw [bv_len]; exact hia), bv_at a _ hia, if_pos (by omega)]
      · rw [List.getElem?_append_right (by rw [bv_len]; omega), List.getElem?_drop, bv_len, if_neg (by omega), show off + a.length + (i - off - a.length) = i from by omega, hb i hi]
theorem wpList_copy_at {ops : Array Oper} {rest : List Oper} {o : Oper} {act : Act} {w : World} {Q : Exit → Act → World → Prop} (hgd : o.guard = none) (d s : Operand)
    (ho : o.op = .call { callee := .builtin .copy, args := #[d, s], argTypes := #[23, 23] }) (g n off dl dc : Nat) (X : Option Addr) (f : Nat → Nat) (hd : act.eval d = .slice X dl dc) (hb : Blk w g n f)
    (A : Option Addr) (a : List Nat) (k c : Nat) (hs : act.eval s = .slice A k c) (hk : a.length = k) (hr : Rd w A a) (hX : 0 < k → X = some ⟨g, off, none⟩) (hdl : k ≤ dl) (hn : off + k ≤ n) (w0 : World) (hx : Ext w0 w) (hg : w0.heap.size ≤ g)
    (h : ∀ w', Hid (Blk w' g n (fun i => if off ≤ i ∧ i < off + k then co a (i - off) else f i)) → Ext w0 w' → wpList Tryd.prog ops Q rest (act.put o.dst (goInt k)) w') :
    wpList Tryd.prog ops Q (o :: rest) act w := by
  subst hk
  refine wpList_copy_splice hgd d s 23 23 ho 5 Tryd.underlying23 (by kernel_rfl) X A dl dc a.length c hd hs g off (bt n f).toList 5 (by unfold Blk at hb; simpa using hb) (bv a) (by rw [bv_len]; exact (Nat.min_eq_left hdl).symm)
    (fun hp => ⟨hX (by rwa [bv_len] at hp), ?_⟩) (by simp [bv_len, bt_size]; omega) (bv_one a) w0.heap.size w0 hx.below hg ?_
  · rw [bv_len] at hp
    obtain ⟨b, o', e, hc⟩ := hr.addr hp
    refine ⟨_, e, fun j v hj => ?_⟩
    have hj' : j < a.length := by
      have := (List.getElem?_eq_some_iff.1 hj).1
      rwa [bv_len] at this
    rw [addr_add, hc j hj', ← bv_at a j hj', hj]
  · intro w' HG hB
    rw [bv_len]
    refine h w' (Lib.hid ?_) ⟨hB⟩
    unfold Blk
    rw [HG.out, splice_at n off f a hn]
set_option maxHeartbeats 800000 in
theorem j_fill_no (n : Nat) (m : Int) (A : Option Addr) (ca : Nat) (w : World) (h : ¬ FillOk n m) :
    Calls Tryd.prog 45 #[.slice A n ca, .int .i64 m] w (GivesE [] 6 w) := by
  unfold FillOk at h
  by_cases h1 : m < 1
  · have d1 : decide (m < 1) = true := decide_eq_true h1
    clear h
    go_enter Tryd.func45, Tryd.ntmps45
    go_wp2
    go_ret2
    exact ⟨_, rfl, sl_none _, Ext.refl w⟩
  have d1 : decide (m < 1) = false := decide_eq_false h1
  by_cases h2 : 256 < m
  · have d2 : decide (256 < m) = true := decide_eq_true h2
    clear h
    go_enter Tryd.func45, Tryd.ntmps45
    go_wp2
    go_ret2
    exact ⟨_, rfl, sl_none _, Ext.refl w⟩
  have d2 : decide (256 < m) = false := decide_eq_false h2
  have d3 : decide (m ≤ (n : Int)) = true := decide_eq_true (by omega)
  clear h
  go_enter Tryd.func45, Tryd.ntmps45
  go_wp2
  go_ret2
  exact ⟨_, rfl, sl_none _, Ext.refl w⟩

set_option maxHeartbeats 1600000 in
set_option maxRecDepth 100000 in
theorem j_fill (t : List Nat) (m : Nat) (A : Option Addr) (ca : Nat) (w : World) (hr : Rd w A t) (h : FillOk t.length (m : Int)) :
    Calls Tryd.prog 45 #[.slice A t.length ca, .int .i64 (m : Int)] w (GivesE (fil t m) 0 w) := by
  obtain ⟨h1, h2, h3⟩ := h
  have HFS := Lib.hid (fil_sm (m := m) hr.1 (by omega))
  have HFL := Lib.hid (fil_len t m)
  have HCO := Lib.hid (fun i (hi : t.length ≤ i) => Pol.co_out t i hi)
  have HFE := Lib.hid (show fil t m = tab m (fun i => if i = 0 then t.length else co t (i - 1)) from rfl)
  have HR := Lib.hid hr
  clear hr
  generalize hn : t.length = n at *
  have HN := Lib.hid hn
  clear hn
  have d1 : decide ((m : Int) < 1) = false := decide_eq_false (by omega)
  have d2 : decide (256 < (m : Int)) = false := decide_eq_false (by omega)
  have d3 : decide (m ≤ n) = false := decide_eq_false (by omega)
  have ew : IntKind.u8.wrap (n : Int) = (n : Int) := IntWalk.u8_in _ (by omega)
  have hmk := run_make_u8 m (by omega) w
  have hm0 : (0 : Int) < (m : Int) := by omega
  obtain ⟨X, hX, _, hXa⟩ := run_rest_u8 (some ⟨w.heap.size, 0, none⟩) m m 1 (by omega) (Nat.le_refl _)
  have hX' : ∀ W, (Instr.slice 23 (.slice (some ⟨w.heap.size, 0, none⟩) m m) (some (.int .i64 1)) none none).run Tryd.prog W = .ok (.slice X (m - 1) (m - 1)) W := hX
  obtain ⟨m1, hm1⟩ : ∃ m1, m - 1 = m1 := ⟨_, rfl⟩
  rw [hm1] at hX'
  have HM1 := Lib.hid hm1
  have HXA := Lib.hid (show 0 < n → X = some ⟨w.heap.size, 1, none⟩ from fun h => hXa _ _ (by omega) rfl)
  obtain ⟨wa, hwa⟩ : ∃ wa, w.alloc (.cells (bt m fun _ => 0) 5) = wa := ⟨_, rfl⟩
  have hb0 : Blk wa w.heap.size m (fun _ => 0) := hwa ▸ Blk.new w m _
  have hxa : Ext w wa := hwa ▸ (Ext.refl w).alloc _
  have hc0 := hb0.cell 0 (by omega)
  have hf0 := hb0.frozen 0
  have HB1 := Lib.hid (hb0.store 0 n)
  have HX1 := Lib.hid (hxa.setCell (p := ⟨w.heap.size, 0, none⟩) (Nat.le_refl _) (.int .u8 (n : Int)))
  rw [hwa] at hmk
  clear hX hXa hm1 hb0 hxa hwa
  go_enter Tryd.func45, Tryd.ntmps45
  go_wp2_with (with_reducible refine wpList_copy_at rfl (.tmp 27) (.tmp 28) rfl w.heap.size m 1 m1 m1 X _ rfl HB1.out A t n ca rfl HN.out (HR.out.ext HX1.out) HXA.out (by have := HM1.out; omega) (by have := HM1.out; omega) w HX1.out (Nat.le_refl _) ?_; intro w2 HB2 hx2)
  have HX2 := Lib.hid hx2
  clear hx2
  go_wp2
  go_ret2
  refine ⟨_, rfl, ⟨_, _, by rw [HFL.out]; rfl, by rw [HFL.out]; exact Nat.le_refl _, ?_⟩, HX2.out⟩
  have hb := HB2.out.congr (f' := fun i => if i = 0 then n else co t (i - 1)) (fun i _ => by
    unfold upd
    by_cases e : i = 0
    · subst e; rw [if_neg (by omega), if_pos rfl, if_pos rfl]
    · rw [if_neg e, if_neg e]
      by_cases h : i < 1 + n
      · rw [if_pos (by omega)]
      · rw [if_neg (by omega), HCO.out _ (by omega)])
  rw [HFE.out]
  refine hb.reads fun i _ => ?_
  have h := HFS.out i
  rw [HFE.out, co_tab] at h
  split at h
  · exact h
  · omega
end Go.Proofs.YtjifionpblpfoaaDoor

/-
  A byte; what the field's own sum does. Conditions: none beyond the kinds of the arguments.
-/
namespace Go.Proofs.YtjifionpblpfoaaDoor
open Go.RowKit

/-- A byte. -/
def U (n : Nat) : Value := .int .u8 (n : Int)

theorem add_any (x y : Int) (w : World) :
    Calls Tryd.prog 67 #[.int .u8 x, .int .u8 y] w fun e w' => e = .returned (.int .u8 (bits .xor .u8 x y)) ∧ w = w' := by
  go_enter Tryd.func67, Tryd.ntmps67
  go_wp2
  go_ret
  exact ⟨rfl, rfl⟩
theorem add_is (a b v : Nat) (ha : a < 256) (hb : b < 256) (h : a ^^^ b = v) (w : World) :
    Calls Tryd.prog 67 #[.int .u8 (a : Int), .int .u8 (b : Int)] w fun e w' => e = .returned (.int .u8 (v : Int)) ∧ w = w' := by
  have := add_any a b w
  rw [u8_xor_nat a b ha hb, h] at this
  exact this
end Go.Proofs.YtjifionpblpfoaaDoor

/-
  A region that draws its order, whose first operations leave every world of a class in that class and yield the same values in all of them, and whose last operations follow in a forced order: one walk of the text's order serves every order. Conditions: none; of no program in particular.
-/
namespace Go.Proofs.YtjifionpblpfoaaDoor
open Go

section
variable {P : Program} {ops : Array Oper} {md : Region.Mode} {C : World → Prop}

/-- f operations below n come up in whatever order, each quiet in the class; then L. -/
def ahead (P : Program) (md : Region.Mode) (ops : Array Oper) (C : World → Prop) (n : Nat) (L : Array Bool → Act → Prop) : Nat → Array Bool → Act → Prop
  | 0, listed, a => L listed a
  | f + 1, listed, a => Region.ready md ops listed ≠ [] ∧ ∀ i, i ∈ Region.ready md ops listed → i < n ∧ qOp P ops C i (ahead P md ops C n L f (listed.setIfInBounds i true)) a

theorem wpAny_of_ahead {n g : Nat} {L : Array Bool → Act → Prop} {Q' : Exit → Act → World → Prop} (hL : ∀ listed a w, C w → L listed a → wpAny P md ops Q' g listed a w) (f : Nat) :
    ∀ (listed : Array Bool) (a : Act) (w : World), C w → ahead P md ops C n L f listed a → wpAny P md ops Q' (f + g) listed a w := by
  induction f with
  | zero => intro listed a w hw h; rw [Nat.zero_add]; exact hL _ _ _ hw h
  | succ f ih =>
    intro listed a w hw h
    rw [Nat.succ_add]
    exact ⟨fun h0 => absurd h0 h.1, fun i hi => wpOp_of_qOp hw (fun a' w' hw' h' => ih _ a' w' hw' h') (h.2 i hi).2⟩

/-- What may come up now may be taken first. -/
theorem ahead_first {n i : Nat} {oi : Oper} {v : Value} {L : Array Bool → Act → Prop} (hi : ops[i]? = some oi) (hsel : ∀ (j : Nat) (o : Oper) cs b, ops[j]? = some o → o.op ≠ .select cs b)
    (hs : Region.sinkB md ops n = true) (hc : Region.chainB md ops n = true) (hn : n < ops.size) (hin : i < n)
    (hdone : ∀ listed a, L listed a → ∀ j ∈ Region.ready md ops listed, n ≤ j) (f : Nat) :
    ∀ (listed : Array Bool) (a : Act), HeadInv md ops n listed →
      (∀ j oj, ops[j]? = some oj → j ≠ i → listed.getD j true = false → (∀ e ∈ oj.after, Region.binds md e = true → e.on ≠ i) → oi.apart ops oj = true) →
      i ∈ Region.ready md ops listed → YieldsIn P ops C oi v a →
      ahead P md ops C n L f (listed.setIfInBounds i true) (a.put oi.dst v) → ahead P md ops C n L (f + 1) listed a := by
  induction f with
  | zero =>
    intro listed a inv _ hr hy H
    refine ⟨List.ne_nil_of_mem hr, fun j hj => ?_⟩
    have hjn : j < n := Nat.lt_of_not_le fun h => tail_waits hs hc hn inv _ i rfl hin (mem_ready.1 hr).1 j h hj
    by_cases hji : j = i
    · subst hji; exact ⟨hjn, hy.qOp hi H⟩
    · exact absurd (hdone _ _ H j (ready_mono hj hji)) (by omega)
  | succ f ih =>
    intro listed a inv hfree hr hy H
    have hun := (mem_ready.1 hr).1
    refine ⟨List.ne_nil_of_mem hr, fun j hj => ?_⟩
    have hjn : j < n := Nat.lt_of_not_le fun h => tail_waits hs hc hn inv _ i rfl hin hun j h hj
    by_cases hji : j = i
    · subst hji; exact ⟨hjn, hy.qOp hi H⟩
    obtain ⟨hjun, oj, hoj, hall⟩ := mem_ready.1 hj
    have hap := hfree j oj hoj hji hjun fun e he hb heq => by
      have h1 := hall e he hb
      rw [heq, getD_both hun] at h1
      cases h1
    refine ⟨hjn, qOp_mono (fun a' h3 => ih (listed.setIfInBounds j true) a' (inv.set hj hjn) ?_ (ready_mono hr (Ne.symm hji)) h3.1 ?_)
      (qOp_put hoj hap (fun cs b => hsel i oi cs b hi) (fun cs b => hsel j oj cs b hoj) hy (H.2 j (ready_mono hj hji)).2)⟩
    · intro k ok hk hki hu hno
      refine hfree k ok hk hki ?_ hno
      by_cases hjk : j = k
      · subst hjk; exact hjun
      · rwa [getD_set_ne true hjk] at hu
    · rw [Array.setIfInBounds_comm _ _ hji]; exact h3.2

theorem ahead_lex {n g : Nat} {Lq : Act → Prop} (hsel : Region.noSelect ops = true) (hs : Region.sinkB md ops n = true) (hc : Region.chainB md ops n = true) (hn : n < ops.size) (l : List Oper) :
    ∀ (k : Nat) (listed : Array Bool) (a : Act), (∀ j, j < l.length → l[j]? = ops[k + j]?) → k + l.length = n → HeadInv md ops n listed →
    Region.lexHead md ops g l.length k listed = true → wpQuiet P ops C Lq l a →
    ahead P md ops C n (fun listed' a' => Region.seqB md ops g n listed' = true ∧ Lq a') l.length listed a := by
  induction l with
  | nil =>
    intro k listed a _ hk _ hB h
    obtain rfl : k = n := by simpa using hk
    exact ⟨by simpa [Region.lexHead] using hB, h⟩
  | cons o l ih =>
    intro k listed a hl hk inv hB h
    have h0 : ops[k]? = some o := by simpa using (hl 0 (by simp)).symm
    simp only [List.length_cons, Region.lexHead, Bool.and_eq_true] at hB hk
    have hr : k ∈ Region.ready md ops listed := by simpa using hB.1.1
    obtain ⟨v, hy, hK⟩ := yieldsIn_of_qOp (C := C) (K := wpQuiet P ops C Lq l) h0 (by unfold qOp; simp only [h0]; exact h)
    refine ahead_first h0 (Region.noSelect_spec hsel) hs hc hn (by omega) (fun _ _ hL => seqB_ready hL.1) l.length listed a inv (Region.free_spec h0 hB.1.2) hr hy ?_
    exact ih (k + 1) _ _ (fun j hj => by have := hl (j + 1) (by simp; omega); simpa [Nat.add_assoc, Nat.add_comm 1 j] using this) (by omega) (inv.set hr (by omega)) hB.2 hK

theorem any_quiet_tail {Q : Exit → Act → World → Prop} {a : Act} {w : World} {l : List Oper} (n : Nat) (C : World → Prop) (hB : Region.lexTailB .any l.toArray n = true) (hC : C w.drew)
    (h : wpQuiet P l.toArray C (fun a' => ∀ w', C w' → wpList P l.toArray Q (l.drop n) a' w') (l.take n) a) : wpAny P .any l.toArray Q l.toArray.size (Array.replicate l.toArray.size false) a w.drew := by
  simp only [Region.lexTailB, Bool.and_eq_true, decide_eq_true_eq] at hB
  obtain ⟨⟨⟨⟨hsel, hn⟩, hs⟩, hc⟩, hlex⟩ := hB
  have hn' : n < l.length := by simpa using hn
  have htl : (l.take n).length = n := by rw [List.length_take]; omega
  have hdl : (l.drop n).length = l.toArray.size - n := by simp
  have inv0 : HeadInv .any l.toArray n (Array.replicate l.toArray.size false) :=
    ⟨by simp, fun j oj _ hl => (by rw [getD_replicate_false] at hl; cases hl), fun t _ ht => getD_in (by simpa using ht) (getD_replicate_false _ _)⟩
  have H := ahead_lex (md := .any) (g := l.toArray.size - n) (C := C) hsel hs hc hn (l.take n) 0 _ a (fun j hj => by
    have hj' : j < n := by rwa [htl] at hj
    simp [hj']) (by rw [htl]; exact Nat.zero_add n) inv0 (by rw [htl]; exact hlex) h
  have key := wpAny_of_ahead (C := C) (Q' := Q) (g := l.toArray.size - n) (fun listed a' w' hw' hL => by
    have := wpAny_of_seq (md := .any) (Q' := Q) (l.drop n) n listed a' w' (fun j => by simp [List.getElem?_drop]) (by rw [hdl]; exact hL.1) (hL.2 w' hw')
    rwa [hdl] at this) _ _ _ _ hC H
  rw [htl, show n + (l.toArray.size - n) = l.toArray.size by omega] at key
  exact key
theorem wp_region_quiet_tail {id : Nat} {Q : Exit → Act → World → Prop} {a : Act} {w : World} {l : List Oper} (n : Nat) (C : World → Prop) (hm : P.follows .mixedOrders = true) (hB : Region.lexTailB .any l.toArray n = true) (hC : C w.drew)
    (h : wpQuiet P l.toArray C (fun a' => ∀ w', C w' → wpList P l.toArray Q (l.drop n) a' w') (l.take n) a) : (Code.region id l.toArray true).wp P Q a w :=
  wp_region_any hm (any_quiet_tail n C hB hC h)
end
end Go.Proofs.YtjifionpblpfoaaDoor

/-
  What sum, Seal and Pad of layer 6 do. Conditions: no more than 2^12 bytes.
-/
namespace Go.Proofs.YtjifionpblpfoaaDoor
open Go.RowKit
open Pol (co Sm)

/-- The first k sums, and 0 behind them. -/
def sk (t p : List Nat) (k i : Nat) : Nat := if i < k then co t i ^^^ co p i else 0
theorem sk_lt {t p : List Nat} (ht : Sm t) (hp : Sm p) (k i : Nat) : sk t p k i < 256 := by
  unfold sk
  split
  · exact Gf.xor_lt _ _ (ht i) (hp i)
  · omega
theorem sk_step (t p : List Nat) (k i : Nat) : upd (sk t p k) k (co t k ^^^ co p k) i = sk t p (k + 1) i := by
  unfold upd sk
  by_cases e : i = k
  · subst e; rw [if_pos rfl, if_pos (by omega)]
  · rw [if_neg e]
    by_cases h : i < k
    · rw [if_pos h, if_pos (by omega)]
    · rw [if_neg h, if_neg (by omega)]
theorem sk_all (t p : List Nat) (n : Nat) (hn : t.length = n) : tab n (sk t p n) = lx t p := by
  subst hn
  unfold lx tab
  refine List.map_congr_left fun i hi => ?_
  unfold sk
  rw [if_pos (List.mem_range.1 hi)]

set_option maxHeartbeats 800000 in
set_option maxRecDepth 100000 in
theorem j_sum (t p : List Nat) (A B : Option Addr) (ca cb : Nat) (w : World) (ha : Rd w A t) (hb : Rd w B p) (hl : t.length ≤ 4096) (he : t.length = p.length) :
    Calls Tryd.prog 60 #[.slice A t.length ca, .slice B p.length cb] w (GivesE (lx t p) 0 w) := by
  have HLL := Lib.hid (lx_len t p)
  rw [← he]
  generalize hna : t.length = n at *
  have HALL := Lib.hid (sk_all t p n hna)
  have HA := Lib.hid ha
  have HB := Lib.hid hb
  have HNA := Lib.hid hna
  have HNB := Lib.hid he.symm
  have hmk := fun W => run_make_u8 n (by omega) W
  have t0 : ((n : Int) != (n : Int)) = false := by simp
  clear ha hb hna he
  go_enter Tryd.func60, Tryd.ntmps60
  go_wp2
  clear hmk t0
  go_loopg [18] n (fun g s wx => ∃ j : Nat, j + g = n ∧ s = .int .i64 (j : Int) ∧ Blk wx w.heap.size n (sk t p j) ∧ Ext w wx)
  case atStart => exact ⟨0, by omega, rfl, (Blk.new w n _).congr (fun i _ => by unfold sk; rw [if_neg (by omega)]), (Ext.refl _).alloc _⟩
  case round =>
    obtain ⟨j, hjg, rfl, hblk, hx⟩ := hrel
    have HY := Lib.hid hx
    have HL := Lib.hid hblk
    clear hx hblk
    cases gk with
    | zero =>
      obtain rfl : j = n := by omega
      clear hjg
      have HR := Lib.hid (HALL.out ▸ HL.out.reads (fun i _ => sk_lt HA.out.1 HB.out.1 j i))
      go_wp2
      go_ret2
      exact ⟨_, rfl, ⟨_, _, by rw [HLL.out]; rfl, by rw [HLL.out]; exact Nat.le_refl _, HR.out⟩, HY.out⟩
    | succ g =>
      have hj : j < n := by omega
      have hjI : (j : Int) < (n : Int) := by omega
      obtain ⟨b1, o1, e1, hc1⟩ := (HA.out.ext HY.out).2 j (by rw [HNA.out]; exact hj)
      obtain ⟨b2, o2, e2, hc2⟩ := (HB.out.ext HY.out).2 j (by rw [HNB.out]; exact hj)
      subst e1; subst e2
      have hc3 := HL.out.cell j hj
      have hfz := HL.out.frozen j
      have HU := Lib.hid (((HL.out.drewN 1).store j (co t j ^^^ co p j)).congr (f' := sk t p (j + 1)) (fun i _ => sk_step t p j i))
      have HE := Lib.hid ((HY.out.drewN 1).setCell (p := ⟨w.heap.size, j, none⟩) (Nat.le_refl _) (.int .u8 ((co t j ^^^ co p j : Nat) : Int)))
      have HM := Lib.hid (fun W => (add_is (co t j) (co p j) _ (HA.out.1 j) (HB.out.1 j) rfl W).mono fun _ _ h => (⟨h.1, h.2.symm⟩ : _ ∧ _ = W))
      go_wp2
      go_still_tail 12, (by kernel_rfl)
      still_call (HM.out _)
      repeat still_step
      refine wpStill_nil ?_
      change wpList _ _ _ _ _ wr.drew
      go_wp2
      go_roundg g
      case measure => omega
      case rel => exact ⟨j + 1, by omega, by go_num, HU.out, HE.out⟩

theorem j_sum_no (t p : Nat) (A B : Option Addr) (ca cb : Nat) (w : World) (he : t ≠ p) :
    Calls Tryd.prog 60 #[.slice A t ca, .slice B p cb] w (GivesE [] 1 w) := by
  have t0 : ((t : Int) != (p : Int)) = true := by simp; omega
  clear he
  go_enter Tryd.func60, Tryd.ntmps60
  go_wp2
  go_ret2
  exact ⟨_, rfl, sl_none _, Ext.refl w⟩
theorem j_seal (l : List Nat) (n : Int) (x y : Value) (w : World) (h : Calls Tryd.prog 60 #[x, y] w (GivesE l n w)) :
    Calls Tryd.prog 41 #[x, y] w (GivesE l n w) := by
  have H := Lib.hid h
  clear h
  go_enter Tryd.func41, Tryd.ntmps41
  go_wp2_with fail
  refine H.out.mono ?_
  rintro e w1 ⟨v, rfl, hs, hx⟩
  have HS := Lib.hid hs
  have HX := Lib.hid hx
  clear hs hx
  go_wp2
  go_ret2
  exact ⟨_, rfl, HS.out, HX.out⟩
end Go.Proofs.YtjifionpblpfoaaDoor

/-
  The code's own valid: which orders can be. Conditions: none.
-/
namespace Go.Proofs.YtjifionpblpfoaaDoor
open Go.RowKit
open Pol (co Sm)

set_option maxHeartbeats 1600000 in
theorem tx_valid (k t : Int) (a n c : Nat) (A : Option Addr) (w : World) : Calls Tryd.prog 63 #[.agg #[.int .i64 k, .int .i64 t, .int .u64 (a : Int), .slice A n c]] w (Tells (.bool (decide (RightN k t a n))) w) := by
  by_cases h0 : 16 < n
  · have d0 : decide ((n : Int) > 16) = true := decide_eq_true (by omega)
    have d0' : decide (16 < (n : Int)) = true := decide_eq_true (by omega)
    rw [show decide (RightN k t a n) = false from decide_eq_false (by unfold RightN; omega)]
    go_enter Tryd.func63, Tryd.ntmps63
    go_wp2
    go_ret
    exact ⟨rfl, (Ext.refl _).alloc _⟩
  have d0 : decide ((n : Int) > 16) = false := decide_eq_false (by omega)
  have d0' : decide (16 < (n : Int)) = false := decide_eq_false (by omega)
  by_cases h1 : k = 1
  · by_cases h2 : 0 ≤ t
    · have d2 : decide (t ≥ 0) = true := decide_eq_true (by omega)
      have d2' : decide (0 ≤ t) = true := decide_eq_true (by omega)
      by_cases h3 : t < 6
      · have d3 : decide (t < 6) = true := decide_eq_true h3
        rw [show decide (RightN k t a n) = true from decide_eq_true (by unfold RightN; omega)]
        subst h1
        go_enter Tryd.func63, Tryd.ntmps63
        go_wp2
        go_ret
        exact ⟨rfl, (Ext.refl _).alloc _⟩
      · have d3 : decide (t < 6) = false := decide_eq_false h3
        rw [show decide (RightN k t a n) = false from decide_eq_false (by unfold RightN; omega)]
        subst h1
        go_enter Tryd.func63, Tryd.ntmps63
        go_wp2
        go_ret
        exact ⟨rfl, (Ext.refl _).alloc _⟩
    · have d2 : decide (t ≥ 0) = false := decide_eq_false (by omega)
      have d2' : decide (0 ≤ t) = false := decide_eq_false (by omega)
      rw [show decide (RightN k t a n) = false from decide_eq_false (by unfold RightN; omega)]
      subst h1
      go_enter Tryd.func63, Tryd.ntmps63
      go_wp2
      go_ret
      exact ⟨rfl, (Ext.refl _).alloc _⟩
  have d1 : (k == 1) = false := by simp; omega
  have d1' : decide (k = 1) = false := decide_eq_false h1
  by_cases h4 : k = 2
  · by_cases h5 : t = 0
    · by_cases h6 : a = 0
      · have HD := Lib.hid (show decide (RightN k t a n) = true from decide_eq_true (by unfold RightN; omega))
        rw [HD.out]
        subst h4 h5 h6
        go_enter Tryd.func63, Tryd.ntmps63
        go_wp2
        go_ret
        exact ⟨rfl, (Ext.refl _).alloc _⟩
      · have d6 : ((a : Int) == 0) = false := by simp; omega
        have d6' : decide ((a : Int) = 0) = false := decide_eq_false (by omega)
        have d6'' : decide (a = 0) = false := decide_eq_false h6
        have HD := Lib.hid (show decide (RightN k t a n) = false from decide_eq_false (by unfold RightN; omega))
        rw [HD.out]
        subst h4 h5
        go_enter Tryd.func63, Tryd.ntmps63
        go_wp2
        go_ret
        exact ⟨rfl, (Ext.refl _).alloc _⟩
    · have d5 : (t == 0) = false := by simp; omega
      have d5' : decide (t = 0) = false := decide_eq_false h5
      have HD := Lib.hid (show decide (RightN k t a n) = false from decide_eq_false (by unfold RightN; omega))
      rw [HD.out]
      subst h4
      go_enter Tryd.func63, Tryd.ntmps63
      go_wp2
      go_ret
      exact ⟨rfl, (Ext.refl _).alloc _⟩
  · have d4 : (k == 2) = false := by simp; omega
    have d4' : decide (k = 2) = false := decide_eq_false h4
    rw [show decide (RightN k t a n) = false from decide_eq_false (by unfold RightN; omega)]
    go_enter Tryd.func63, Tryd.ntmps63
    go_wp2
    go_ret
    exact ⟨rfl, (Ext.refl _).alloc _⟩
end Go.Proofs.YtjifionpblpfoaaDoor

/-
  What Number and Text of layer 8 lay behind bytes. Conditions: no more than 2^20 bytes each.
-/
namespace Go.Proofs.YtjifionpblpfoaaDoor
open Go.RowKit
open Pol (co Sm)

set_option maxHeartbeats 1600000 in
set_option maxRecDepth 100000 in
theorem cd_layN (base : Nat) (v : Value) (l : List Nat) (n : Nat) (w : World) (hm : Mine w base v l) (hs : Sm l) (hl : l.length ≤ 1048576) (hn : n < 18446744073709551616) (hb : base ≤ w.heap.size) :
    Calls Tryd.prog 25 #[v, .int .u64 (n : Int)] w (Lays base v (l ++ vn n) w) := by
  have HSM := Lib.hid (sm_app hs (vn_sm n))
  have HTEN := Lib.hid (vn_ten hn)
  have hn10 : n < 128 ^ (9 + 1) := by omega
  obtain ⟨V, hV⟩ : ∃ V, l ++ vn n = V := ⟨_, rfl⟩
  have HVL := Lib.hid (show V.length ≤ 1048586 by rw [← hV, List.length_append]; have := HTEN.out; omega)
  rw [hV] at HSM
  rw [hV]
  have HV := Lib.hid hV
  clear hV
  obtain ⟨B0, c0, rfl, hc0, _⟩ := hm.slice hs
  have HM0 := Lib.hid hm
  have HB := Lib.hid hb
  obtain ⟨l0, hl0⟩ : ∃ l0, l.length = l0 := ⟨_, rfl⟩
  have HL0 := Lib.hid hl0
  obtain ⟨v0, hv0⟩ : ∃ v0, Value.slice B0 l.length c0 = v0 := ⟨_, rfl⟩
  rw [hv0] at HM0 ⊢
  rw [hl0] at hv0 hc0 hl
  have HV0 := Lib.hid hv0
  rw [← hv0]
  clear hm hb hl0 hv0
  go_enter Tryd.func25, Tryd.ntmps25
  go_wp2
  go_loopg [0, 1] 9 (fun g s0 s1 wx => ∃ (m : Nat) (acc : List Nat) (B : Option Addr) (c : Nat), m < 128 ^ (g + 1) ∧ s1 = .int .u64 (m : Int) ∧ m < 18446744073709551616 ∧ acc ++ vn m = V ∧ s0 = .slice B acc.length c ∧ Mine wx base (.slice B acc.length c) acc ∧ LayS w wx v0 (.slice B acc.length c))
  case atStart => exact ⟨n, l, B0, c0, hn10, rfl, hn, HV.out, by rw [HL0.out], by rw [HL0.out, HV0.out]; exact HM0.out, by rw [HL0.out, HV0.out]; exact LayS.refl _ _⟩
  case round =>
    obtain ⟨m, acc, B, c, hmg, rfl, hm64, hac, rfl, hmi, hx⟩ := hrel
    have HM := Lib.hid hmi
    have HX := Lib.hid hx
    have hlen : acc.length ≤ 1048586 := by have := HVL.out; rw [← hac, List.length_append] at this; omega
    have hsz : w.heap.size ≤ wr.heap.size := hx.1.size
    have HSZ := Lib.hid (Nat.le_trans HB.out hsz)
    obtain ⟨la, hla⟩ : ∃ la, acc.length = la := ⟨_, rfl⟩
    have HLA := Lib.hid hla
    rw [hla] at HM HX hlen ⊢
    clear hmi hx hla hsz
    by_cases h128 : m < 128
    · have d1 : decide (128 ≤ (m : Int)) = false := decide_eq_false (by omega)
      have e1 : IntKind.u8.wrap (m : Int) = (m : Int) := IntWalk.u8_in _ (by omega)
      have HAV := Lib.hid (show acc ++ [m] = V from by rw [← hac, vn_lt h128])
      have hm256 : m < 256 := by omega
      clear hac hmg
      go_wp2_with (at_builtin; refine wpList_append_rd rfl (.tmp 15) (.tmp 18) rfl base _ acc [m] rfl (mine_ext HM.out ((Ext.refl _).alloc _)) (some ⟨wr.heap.size, 0, none⟩) 1 1 rfl rfl (rd_one wr m hm256) (by rw [HLA.out]; simp; omega) (by simp; have := HSZ.out; omega) ?_; intro v' w3 hown' hg' hat'; rw [HAV.out] at hown'; have hx3 := (HX.out.alloc (.cells #[.int .u8 (m : Int)] 5)).step hg' hat'; have HO := Lib.hid (hx3.lays hown'); clear hown' hg' hat' hx3)
      go_ret
      rw [HV0.out]
      exact HO.out
    · cases gk with
      | zero => omega
      | succ g =>
        have d1 : decide (128 ≤ (m : Int)) = true := decide_eq_true (by omega)
        obtain ⟨q, hq⟩ : ∃ q, m % 256 = q := ⟨_, rfl⟩
        obtain ⟨y, hy⟩ : ∃ y, q % 128 + 128 = y := ⟨_, rfl⟩
        obtain ⟨m2, hm2⟩ : ∃ m2, m / 128 = m2 := ⟨_, rfl⟩
        have e1 : IntKind.u8.wrap (m : Int) = (q : Int) := by rw [IntKind.wrap_u8]; omega
        have e2 : bits .or .u8 (q : Int) 128 = (y : Int) := by rw [or8_128 q (by omega), hy]
        have e5 : (m : Int) / 128 = (m2 : Int) := by omega
        have hy256 : y < 256 := by omega
        have HAV := Lib.hid (show (acc ++ [y]) ++ vn m2 = V from by
          rw [← hac, vn_ge h128, List.append_assoc, hm2, show m % 128 + 128 = y from by omega]; rfl)
        have HS9 := Lib.hid (show Sm (acc ++ [y]) from (sm_split (b := vn m2) (by rw [HAV.out]; exact HSM.out)).1)
        have HL9 := Lib.hid (show (acc ++ [y]).length = la + 1 by rw [List.length_append, HLA.out]; rfl)
        have hm2b : m2 < 128 ^ (g + 1) := by rw [← hm2]; rw [Nat.pow_succ] at hmg; omega
        have hm2c : m2 < 18446744073709551616 := by omega
        clear hac hq hy hm2 hmg
        go_wp2_with (at_builtin; refine wpList_append_rd rfl (.tmp 7) (.tmp 11) rfl base _ acc [y] rfl (mine_ext HM.out ((Ext.refl _).alloc _)) (some ⟨wr.heap.size, 0, none⟩) 1 1 rfl rfl (rd_one wr y hy256) (by rw [HLA.out]; simp; omega) (by simp; have := HSZ.out; omega) ?_; intro v' w3 hown' hg' hat'; have hx3 := (HX.out.alloc (.cells #[.int .u8 (y : Int)] 5)).step hg' hat'; obtain ⟨Bv, cv, ev', hcv, _⟩ := hown'.slice HS9.out; rw [HL9.out] at ev'; subst ev'; have HO := Lib.hid hown'; have HX3 := Lib.hid hx3; clear hown' hg' hat' hx3)
        go_roundg g
        case measure => omega
        case rel => exact ⟨m2, acc ++ [y], Bv, cv, hm2b, rfl, hm2c, HAV.out, by rw [HL9.out], by rw [HL9.out]; exact HO.out, by rw [HL9.out]; exact HX3.out⟩
set_option maxHeartbeats 1600000 in
theorem cd_layT (base : Nat) (v : Value) (l t : List Nat) (A : Option Addr) (ca : Nat) (w : World) (hm : Mine w base v l) (hs : Sm l) (hr : Rd w A t) (hl : l.length ≤ 1048576) (ht : t.length ≤ 1048576) (hb : base ≤ w.heap.size) :
    Calls Tryd.prog 26 #[v, .slice A t.length ca] w (Lays base v (l ++ vt t) w) := by
  have HN := Lib.hid (cd_layN w.heap.size (.slice none 0 0) [] t.length w (Mine.nil _ _) Sm.nil (by decide) (by omega) (Nat.le_refl _))
  have HR := Lib.hid hr
  have HM := Lib.hid hm
  have HB := Lib.hid hb
  have HS := Lib.hid (vt_sm hr.1)
  have HSN := Lib.hid (vn_sm t.length)
  have HTEN := Lib.hid (vn_ten (n := t.length) (by omega))
  have HVT := Lib.hid (show vn t.length ++ t = vt t from rfl)
  have HVL := Lib.hid (show (vt t).length ≤ 1048586 by rw [← HVT.out, List.length_append]; have := HTEN.out; omega)
  rw [List.nil_append] at HN
  obtain ⟨B0, c0, ev0, hc0, _⟩ := hm.slice hs
  have HV0 := Lib.hid ev0
  rw [ev0]
  clear hr hm hb
  generalize hn : t.length = n at *
  have HL := Lib.hid hn
  clear hn
  have e1 : IntKind.u64.wrap (n : Int) = (n : Int) := by rw [IntKind.wrap_u64]; omega
  generalize vn n = V at *
  obtain ⟨V2, hV2⟩ : ∃ V2, vt t = V2 := ⟨_, rfl⟩
  rw [hV2] at HS HVT HVL ⊢
  clear hV2 ev0
  go_enter Tryd.func26, Tryd.ntmps26
  go_wp2_with fail
  refine HN.out.mono ?_
  rintro e w1 ⟨v1, rfl, hm1, hg1, _⟩
  have HX1 := Lib.hid ((Ext.refl w).more hg1 (fun r e => by simp [Value.ownBlock] at e))
  obtain ⟨B, c, ev, hc, _⟩ := hm1.slice HSN.out
  subst ev
  have HM1 := Lib.hid hm1
  clear hm1 hg1
  obtain ⟨lv, hlv⟩ : ∃ lv, V.length = lv := ⟨_, rfl⟩
  have HLV := Lib.hid hlv
  rw [hlv] at HM1 hc HTEN ⊢
  clear hlv
  go_wp2_with (at_builtin; first | (refine wpList_append_rd rfl (.tmp 9) (.tmp 10) rfl w.heap.size _ V t rfl HM1.out A n ca rfl HL.out (HR.out.ext HX1.out) (by rw [HLV.out, HL.out]; have := HTEN.out; omega) (by have := HX1.out.size; omega) ?_; intro v2 w3 hown' hg' hat'; rw [HVT.out] at hown'; have hx3 := HX1.out.more hg' (fun r e => (HM1.out.block r e).1); obtain ⟨Bv, cv, ev', hcv, hrv⟩ := hown'.slice HS.out; subst ev'; have HR3 := Lib.hid hrv; have HX3 := Lib.hid hx3; clear hown' hg' hat' hx3 hrv) | (refine wpList_append_rd rfl (.tmp 12) (.tmp 13) rfl base _ l V2 rfl (HV0.out ▸ mine_ext HM.out HX3.out) Bv V2.length cv rfl rfl HR3.out (by have := HVL.out; omega) (by have := HX3.out.size; have := HB.out; omega) ?_; intro v4 w5 hown5 hg5 hat5; have HO := Lib.hid ((((LayS.refl w (.slice B0 l.length c0)).ext HX3.out).step hg5 hat5).lays hown5); clear hown5 hg5 hat5))
  go_ret
  exact HO.out

end Go.Proofs.YtjifionpblpfoaaDoor

/-
  The code's own Encode of layer 14. Conditions: no more than 2^16 bytes.
-/
namespace Go.Proofs.YtjifionpblpfoaaDoor
open Go.RowKit
open Pol (co Sm)

set_option maxHeartbeats 3200000 in
set_option maxRecDepth 100000 in
theorem tx_encode (k t : Int) (a n c : Nat) (m : List Nat) (A : Option Addr) (w : World) (hn : m.length = n) (hr : Rd w A m) (hl : n ≤ 65536) (ha : a < 18446744073709551616) :
    Calls Tryd.prog 44 #[.agg #[.int .i64 k, .int .i64 t, .int .u64 (a : Int), .slice A n c]] w (EncR ⟨k, t, a, m⟩ w) := by
  have HV := Lib.hid (fun u => tx_valid k t a n c A u)
  rw [right_is hn] at HV
  have HX0 := Lib.hid ((Ext.refl w).alloc (.cells #[.int .i64 k, .int .i64 t, .int .u64 (a : Int), .slice A n c] 50))
  have HG := Lib.hid (heap_alloc_new w (.cells #[.int .i64 k, .int .i64 t, .int .u64 (a : Int), .slice A n c] 50))
  by_cases ho : Od.right ⟨k, t, a, m⟩
  · rw [decide_eq_true ho] at HV
    obtain ⟨b1, b2, b3, b4, _⟩ := Od.right_bounds ho
    dsimp only at b1 b2 b3 b4
    have HE := Lib.hid (show Od.bytes ⟨k, t, a, m⟩ = [] ++ vn k.toNat ++ vn t.toNat ++ vn a ++ vt m ∧ Od.code ⟨k, t, a, m⟩ = 0 from by
      unfold Od.bytes Od.code Od.enc
      rw [if_pos ho, if_pos ho]
      exact ⟨rfl, rfl⟩)
    have HSM := Lib.hid (Od.bytes_sm (o := ⟨k, t, a, m⟩) hr.1)
    obtain ⟨kk, rfl⟩ : ∃ q : Nat, (q : Int) = k := ⟨k.toNat, by omega⟩
    obtain ⟨tt, rfl⟩ : ∃ q : Nat, (q : Int) = t := ⟨t.toNat, by omega⟩
    rw [Int.toNat_natCast, Int.toNat_natCast] at HE
    have w8 : IntKind.u64.wrap (kk : Int) = (kk : Int) := by rw [IntKind.wrap_u64]; omega
    have w8' : IntKind.u64.wrap (tt : Int) = (tt : Int) := by rw [IntKind.wrap_u64]; omega
    obtain ⟨base, hbase⟩ : ∃ base, (w.alloc (.cells #[.int .i64 (kk : Int), .int .i64 (tt : Int), .int .u64 (a : Int), .slice A n c] 50)).heap.size = base := ⟨_, rfl⟩
    have HBS := Lib.hid hbase
    have S1 : Sm ([] ++ vn kk) := sm_app Sm.nil (vn_sm _)
    have S2 : Sm ([] ++ vn kk ++ vn tt) := sm_app S1 (vn_sm _)
    have S3 : Sm ([] ++ vn kk ++ vn tt ++ vn a) := sm_app S2 (vn_sm _)
    have T1 := vn_ten (show kk < 18446744073709551616 by omega)
    have T2 := vn_ten (show tt < 18446744073709551616 by omega)
    have T3 := vn_ten ha
    have L1 := Lib.hid (fun u (hb : base ≤ u.heap.size) => cd_layN base (.slice none 0 0) [] kk u (Mine.nil _ _) Sm.nil (by decide) (by omega) hb)
    have L2 := Lib.hid (fun u v (hb : base ≤ u.heap.size) (hm : Mine u base v ([] ++ vn kk)) => cd_layN base v _ tt u hm S1 (by simp; omega) (by omega) hb)
    have L3 := Lib.hid (fun u v (hb : base ≤ u.heap.size) (hm : Mine u base v ([] ++ vn kk ++ vn tt)) => cd_layN base v _ a u hm S2 (by simp; omega) ha hb)
    have L4 := Lib.hid (fun u v (hb : base ≤ u.heap.size) (hu : Ext w u) (hm : Mine u base v ([] ++ vn kk ++ vn tt ++ vn a)) => show Calls Tryd.prog 26 #[v, .slice A n c] u (Lays base v ([] ++ vn kk ++ vn tt ++ vn a ++ vt m) u) from by
      have h := cd_layT base v _ m A c u hm S3 (hr.ext hu) (by simp; omega) (by omega) hb
      rwa [hn] at h)
    unfold EncR
    rw [HE.out.1] at HSM ⊢
    rw [HE.out.2]
    clear hr ho S1 S2 S3 T1 T2 T3 b1 b2 b3 b4 HE hbase
    generalize vn kk = V1 at *
    generalize vn tt = V2 at *
    generalize vn a = V3 at *
    generalize vt m = V4 at *
    go_enter Tryd.func44, Tryd.ntmps44
    go_wp2_with fail
    refine (HV.out _).mono ?_
    rintro e w1 ⟨rfl, hx1⟩
    have g1 := hx1.row HG.out
    have q0 : w1.cell? ⟨w.heap.size, 0, none⟩ = some (.int .i64 (kk : Int)) := cell_of_row _ _ 0 _ _ _ g1
    have HX1 := Lib.hid hx1
    clear hx1 g1
    go_wp2_with fail
    refine (L1.out w1 (by rw [← HBS.out]; exact HX1.out.size)).mono ?_
    rintro e w2 ⟨v2, rfl, hm2, hg2, _⟩
    have hx2 := HX1.out.more hg2 (fun r e => by cases e)
    have g2 := hx2.row HG.out
    have q1 : w2.cell? ⟨w.heap.size, 1, none⟩ = some (.int .i64 (tt : Int)) := cell_of_row _ _ 1 _ _ _ g2
    have HX2 := Lib.hid hx2
    have HM2 := Lib.hid hm2
    clear hx2 g2 hm2 hg2 q0
    go_wp2_with fail
    refine (L2.out w2 v2 (by rw [← HBS.out]; exact HX2.out.size) HM2.out).mono ?_
    rintro e w3 ⟨v3, rfl, hm3, hg3, _⟩
    have hx3 := HX2.out.more hg3 (fun r e => by rw [HBS.out]; exact (HM2.out.block r e).1)
    have g3 := hx3.row HG.out
    have q2 : w3.cell? ⟨w.heap.size, 2, none⟩ = some (.int .u64 (a : Int)) := cell_of_row _ _ 2 _ _ _ g3
    have HX3 := Lib.hid hx3
    have HM3 := Lib.hid hm3
    clear hx3 g3 hm3 hg3 q1
    go_wp2_with fail
    refine (L3.out w3 v3 (by rw [← HBS.out]; exact HX3.out.size) HM3.out).mono ?_
    rintro e w4 ⟨v4, rfl, hm4, hg4, _⟩
    have hx4 := HX3.out.more hg4 (fun r e => by rw [HBS.out]; exact (HM3.out.block r e).1)
    have g4 := hx4.row HG.out
    have q3 : w4.cell? ⟨w.heap.size, 3, none⟩ = some (.slice A n c) := cell_of_row _ _ 3 _ _ _ g4
    have HX4 := Lib.hid hx4
    have HM4 := Lib.hid hm4
    clear hx4 g4 hm4 hg4 q2
    go_wp2_with fail
    refine (L4.out w4 v4 (by rw [← HBS.out]; exact HX4.out.size) (HX0.out.trans HX4.out) HM4.out).mono ?_
    rintro e w5 ⟨v5, rfl, hm5, hg5, _⟩
    have HX5 := Lib.hid (HX4.out.more hg5 (fun r e => by rw [HBS.out]; exact (HM4.out.block r e).1))
    obtain ⟨B5, c5, rfl, hc5, hr5⟩ := hm5.slice HSM.out
    obtain ⟨n5, hn5⟩ : ∃ q, ([] ++ V1 ++ V2 ++ V3 ++ V4).length = q := ⟨_, rfl⟩
    rw [hn5] at hc5 ⊢
    have HN5 := Lib.hid hn5
    have HR5 := Lib.hid hr5
    have HC5 := Lib.hid hc5
    clear hm5 hg5 hr5 hc5 q3 hn5
    go_wp2
    go_ret2
    exact ⟨HX0.out.trans HX5.out, _, _, _, rfl, HN5.out, HC5.out, HR5.out⟩
  · rw [decide_eq_false ho] at HV
    have HO := Lib.hid ho
    clear hr ho
    go_enter Tryd.func44, Tryd.ntmps44
    go_wp2_with fail
    refine (HV.out _).mono ?_
    rintro e w1 ⟨rfl, hx1⟩
    have HX1 := Lib.hid (HX0.out.trans hx1)
    clear hx1
    go_wp2
    go_ret2
    exact EncR.no HO.out HX1.out
end Go.Proofs.YtjifionpblpfoaaDoor

/-
  Part 5 of the texts that the seat's proofs stand on; each part of it begins with its own sentence and conditions. Conditions: those that each theorem names.
-/
import Derived.Test.YtjifionpblpfoaaDoorBackPack4
import Derived.ChangeKeysEq
import Derived.StillTail
import Derived.Deep.Quiet
import Derived.Deep.QuietTactic
import Derived.BigQuiet
import Derived.KernelRfl

/-
  What the laws of layer 16 that encode, decode and name envelopes stand on, over any code. Conditions: those of EnvCd.
-/
namespace Go.Proofs.YtjifionpblpfoaaDoor
open Go.RowKit
open Pol (co Sm)

/-- An envelope's bytes, in bytes of the call's own, and the error's number. -/
def EncO (o : Ev) (w : World) (e : Ending) (w' : World) : Prop := ∃ v, e = .returned (.tuple #[v, .int .i64 ((o.chk : Nat) : Int)]) ∧ Mine w' w.heap.size v o.bytes ∧ Ext w w'
/-- The envelope of bytes, whose body is in bytes of the call's own, and the error's number. -/
def DecO (b : List Nat) (w : World) (e : Ending) (w' : World) : Prop :=
  ∃ v, e = .returned (.tuple #[.agg #[.int .i64 (dec16 b).2.s, .int .u64 (((dec16 b).2.n : Nat) : Int), .int .u64 (((dec16 b).2.f : Nat) : Int), .int .u64 (((dec16 b).2.x : Nat) : Int), v], .int .i64 (((dec16 b).1 : Nat) : Int)]) ∧ Mine w' w.heap.size v (dec16 b).2.b ∧ Ext w w'
structure EnvCd : Prop where
  enc : ∀ (s : Int) (n f x k c : Nat) (b : List Nat) (A : Option Addr) (w : World), b.length = k → k ≤ c → Rd w A b → k ≤ 65536 → n < 18446744073709551616 → f < 18446744073709551616 → x < 18446744073709551616 →
    Calls Tryd.prog 9 #[evv s n f x A k c] w (EncO ⟨s, n, f, x, b⟩ w)
  dec : ∀ (b : List Nat) (A : Option Addr) (n c : Nat) (w : World), b.length = n → n ≤ c → Rd w A b → n ≤ 65536 → Calls Tryd.prog 10 #[.slice A n c] w (DecO b w)
  id : ∀ (s : Int) (n f x k c : Nat) (b : List Nat) (A : Option Addr) (w : World), GL w → b.length = k → k ≤ c → Rd w A b → k ≤ 65536 → n < 18446744073709551616 → f < 18446744073709551616 → x < 18446744073709551616 →
    Calls Tryd.prog 16 #[evv s n f x A k c] w (DgS (idv sha ⟨s, n, f, x, b⟩) w)
theorem Ev.bytes_sm {o : Ev} (h : Sm o.b) : Sm o.bytes := by
  unfold Ev.bytes
  split
  · exact Ev.enc_sm h
  · exact Sm.nil
theorem Ev.bytes_ok {o : Ev} (h : o.ok) : o.bytes = o.enc := if_pos h
theorem Ev.bytes_no {o : Ev} (h : ¬ o.ok) : o.bytes = [] := if_neg h
theorem Ev.bytes_len {o : Ev} (h : o.Fit) : o.bytes.length ≤ 64 := by
  by_cases ho : o.ok
  · rw [Ev.bytes_ok ho]
    exact (Ev.enc_len ho h).2
  · rw [Ev.bytes_no ho]
    exact Nat.zero_le _
theorem dec16_fit {b : List Nat} (hs : Sm b) : (dec16 b).2.Fit ∧ (dec16 b).2.b.length ≤ 32 := by
  by_cases h : (dec16 b).1 = 0
  · obtain ⟨h1, _, h3⟩ := dec16_ok hs h
    exact ⟨h3, h1.2.2.2.2⟩
  · have hz : (dec16 b).2 = Ev.zero := by
      unfold dec16 at h ⊢
      cases h1 : rdE b with
      | er n => rfl
      | ok e rest =>
        rw [h1] at h
        dsimp only at h ⊢
        split
        · rfl
        · split
          · rfl
          · rename_i h2 h3
            rw [if_neg h2, if_neg h3] at h
            exact absurd rfl h
    rw [hz]
    exact ⟨⟨by decide, by decide, by decide, Sm.nil⟩, Nat.zero_le _⟩
theorem idv_32 (e : Ev) : (idv sha e).length = 32 := by
  unfold idv
  split
  · exact sha_len _
  · exact List.length_replicate
theorem idv_sm (e : Ev) : Sm (idv sha e) := by
  unfold idv
  split
  · exact sha_sm _
  · intro i
    unfold co
    rw [List.getElem?_replicate]
    split <;> decide
end Go.Proofs.YtjifionpblpfoaaDoor

/-
  Two orders: are they one? Two slices of bytes: are they alike? Conditions: no more than 2^20 bytes.
-/
namespace Go.Proofs.YtjifionpblpfoaaDoor
open Go.RowKit
open Pol (co Sm)

theorem same14 (l m : List Nat) (A B : Option Addr) (n n' ca cb : Nat) (w : World) (hn : l.length = n) (hn' : m.length = n') (ha : Rd w A l) (hb : Rd w B m) (hl : n ≤ 1048576) :
    Calls Tryd.prog 15 #[.slice A n ca, .slice B n' cb] w (Tells (.bool (decide (l = m))) w) := by
  subst hn hn'
  by_cases h : l = m
  · rw [decide_eq_true h]
    subst h
    exact same_tells l A B ca cb w ha hb hl
  · rw [decide_eq_false h]
    exact (same_no l m A B ca cb w ha hb hl h).mono fun _ _ h => h.tells
theorem Od.eq_iff {o p : Od} : o = p ↔ o.k = p.k ∧ o.t = p.t ∧ o.a = p.a ∧ o.m = p.m := by
  constructor
  · rintro rfl; exact ⟨rfl, rfl, rfl, rfl⟩
  · obtain ⟨k, t, a, m⟩ := o
    obtain ⟨k', t', a', m'⟩ := p
    rintro ⟨h1, h2, h3, h4⟩
    dsimp only at h1 h2 h3 h4
    subst h1 h2 h3 h4
    rfl
instance : DecidableEq Od := fun _ _ => decidable_of_iff _ Od.eq_iff.symm
end Go.Proofs.YtjifionpblpfoaaDoor

/-
  A load of a whole value that stays, in a walk by wp_region_stab. Conditions: those of stab_yes.
-/
namespace Go.Proofs.YtjifionpblpfoaaDoor
open Go

section
variable {P : Program} {C : World → Prop} {Q : Exit → Act → World → Prop}
theorem stab_load {F : Nat → Bool} {l : List Oper} {i : Nat} {o : Oper} {π : List (Nat × Bool)} {a : Act} {w : World} (ho : l[i]? = some o) (ty : TypeId) (x : Operand) (hop : o.op = .load ty x) (v : Value)
    (hw : Region.wanted o (yielded l.toArray a.tmps) = true) (hrun : ∀ W, C W → (Instr.loadAt ty (a.eval x)).run P W = .ok v W) (h : wpStab P l C F Q π (a.put o.dst v) w) : wpStab P l C F Q ((i, true) :: π) a w :=
  stab_yes ho (fun _ hK => ⟨hw, v, fun W hW => by simp only [execOp, hop, Sem.run_bind, hrun W hW, Result.andThen, Sem.run_pure], hK _ h⟩)
/-- An operation under a guard that is false. -/
theorem stab_no {F : Nat → Bool} {l : List Oper} {i : Nat} {o : Oper} {π : List (Nat × Bool)} {a : Act} {w : World} (ho : l[i]? = some o) (h : ∀ K : Act → Prop, (∀ a', wpStab P l C F Q π a' w → K a') → Region.wanted o (yielded l.toArray a.tmps) = false ∧ K (a.put o.dst undef)) : wpStab P l C F Q ((i, true) :: π) a w := by
  obtain ⟨h1, h2⟩ := h (fun a' => wpStab P l C F Q π a' w) (fun _ h => h)
  exact ⟨o, undef, ho, .inr (.inl ⟨h1, rfl⟩), h2⟩
end
end Go.Proofs.YtjifionpblpfoaaDoor

/-
  A whole envelope loaded. Conditions: none.
-/
namespace Go.Proofs.YtjifionpblpfoaaDoor
open Go.RowKit
open Pol (co Sm)

theorem load_ev16 {w : World} {g : Nat} {a b c d e : Value} {t : TypeId} {fr : Nat × Nat} (hg : w.heap[g]? = some (.cells #[a, b, c, d, e] t fr)) : (Instr.loadAt 25 (.pointer (some ⟨g, 0, none⟩))).run Tryd.prog w = .ok (.agg #[a, b, c, d, e]) w := by
  simp only [Instr.loadAt, Instr.sureAddr, Sem.run_bind, Sem.run_pure, Result.andThen]
  exact run_loadVar_row w g t _ _ fr _ hg Tryd.underlying25 rfl ev_in16
end Go.Proofs.YtjifionpblpfoaaDoor

/-
  A load of a whole array, under a guard. Conditions: none; no function is named here.
-/
namespace Go.Proofs.YtjifionpblpfoaaDoor
open Go.RowKit

theorem wpList_load_row_g {P : Program} {ops : Array Oper} {rest : List Oper} {o : Oper} {a : Act} {w : World} {Q : Exit → Act → World → Prop} (hgd : Region.wanted o (yielded ops a.tmps) = true) (ty : TypeId) (x : Operand) (ho : o.op = .load ty x)
    (g : Nat) (hx : a.eval x = .pointer (some ⟨g, 0, none⟩)) (t : TypeId) (cs : Array Value) (fr : Nat × Nat) (d : TypeDesc) (hg : w.heap[g]? = some (.cells cs t fr))
    (hu : P.underlying ty = some d) (hd : (match d with | .struct _ | .array _ _ => true | _ => false) = true) (hi : (P.info? ty).map (·.size) = some cs.size)
    (h : wpList P ops Q rest (a.put o.dst (.agg cs)) w) : wpList P ops Q (o :: rest) a w := by
  unfold wpList
  rw [if_pos hgd]
  exact .inl (wp_load_row ty x ho g hx t cs fr d hg hu hd hi h)
theorem wpIf_load_row {P : Program} {ops : Array Oper} {o : Oper} {a : Act} {w : World} {K : Act → World → Prop} {Q : Exit → Act → World → Prop} {E : Prop} (hgd : Region.wanted o (yielded ops a.tmps) = true) (ty : TypeId) (x : Operand) (ho : o.op = .load ty x)
    (g : Nat) (hx : a.eval x = .pointer (some ⟨g, 0, none⟩)) (t : TypeId) (cs : Array Value) (fr : Nat × Nat) (d : TypeDesc) (hg : w.heap[g]? = some (.cells cs t fr))
    (hu : P.underlying ty = some d) (hd : (match d with | .struct _ | .array _ _ => true | _ => false) = true) (hi : (P.info? ty).map (·.size) = some cs.size)
    (h : K (a.put o.dst (.agg cs)) w) : if Region.wanted o (yielded ops a.tmps) = true then Oper.wp P o a w K Q else E := by
  rw [if_pos hgd]
  exact wp_load_row ty x ho g hx t cs fr d hg hu hd hi h
end Go.Proofs.YtjifionpblpfoaaDoor

/-
  What right of layer 10 does: a word is turned. Conditions: by 1 to 31.
-/
namespace Go.Proofs.YtjifionpblpfoaaDoor
open Go.RowKit
open Pol (co Sm)

set_option maxHeartbeats 400000 in
theorem sh_rot (x r : Nat) (w : World) (hx : x < 4294967296) (h0 : 0 < r) (hr : r < 32) :
    Calls Tryd.prog 69 #[.int .u32 (x : Int), .int .i64 (-(r : Int))] w (fun e w' => e = .returned (.int .u32 ((tw x r : Nat) : Int)) ∧ w = w') := by
  obtain ⟨m, hm⟩ : ∃ m, 32 - r = m := ⟨_, rfl⟩
  obtain ⟨M, hM⟩ : ∃ M, 18446744073709551616 - r = M := ⟨_, rfl⟩
  obtain ⟨q, hq⟩ : ∃ q, x / 2 ^ r = q := ⟨_, rfl⟩
  obtain ⟨y, hy⟩ : ∃ y, x * 2 ^ m % 4294967296 = y := ⟨_, rfl⟩
  obtain ⟨z, hz⟩ : ∃ z, tw x r = z := ⟨_, rfl⟩
  have e0 : IntKind.u64.wrap (-(r : Int)) = (M : Int) := by rw [IntKind.wrap_u64]; omega
  have ea : bits .and .u64 (M : Int) 31 = (m : Int) := by
    have h := u64_and_nat M 31 (by omega) (by decide)
    rw [show ((31 : Nat) : Int) = 31 from rfl] at h
    rw [h, show (31 : Nat) = 2 ^ 5 - 1 from rfl, Nat.and_two_pow_sub_one_eq_mod]
    omega
  have e1 : IntKind.u64.wrap (32 - (m : Int)) = (r : Int) := by rw [IntKind.wrap_u64]; omega
  have e1' : 32 - (m : Int) = (r : Int) := by omega
  have e2 : (x : Int) / 2 ^ r = (q : Int) := by rw [← hq]; simp
  have e3 : IntKind.u32.wrap ((x : Int) * 2 ^ m) = (y : Int) := by
    rw [IntKind.wrap_u32, ← hy]
    simp
  have hqb : q < 4294967296 := by rw [← hq]; exact Nat.lt_of_le_of_lt (Nat.div_le_self _ _) hx
  have hyb : y < 4294967296 := by rw [← hy]; exact Nat.mod_lt _ (by decide)
  have e4 : bits .or .u32 (y : Int) (q : Int) = (z : Int) := by
    rw [u32_or_nat y q hyb hqb, ← hz, Nat.or_comm]
    unfold tw
    rw [hm, hq, hy]
  have hm32 : m < 32 := by omega
  rw [hz]
  clear hm hq hy hz hM
  go_enter Tryd.func69, Tryd.ntmps69
  go_wp2
  go_ret
  exact ⟨rfl, rfl⟩
set_option maxHeartbeats 400000 in
theorem sh_right (x r : Nat) (w : World) (hx : x < 4294967296) (h0 : 0 < r) (hr : r < 32) :
    Calls Tryd.prog 66 #[.int .u32 (x : Int), .int .i64 (r : Int)] w (fun e w' => e = .returned (.int .u32 ((tw x r : Nat) : Int)) ∧ w = w') := by
  have HR := Lib.hid (fun W => sh_rot x r W hx h0 hr)
  obtain ⟨z, hz⟩ : ∃ z, tw x r = z := ⟨_, rfl⟩
  rw [hz] at HR ⊢
  have e0 : wrap64 (-(r : Int)) = -(r : Int) := by unfold wrap64; omega
  clear hz
  go_enter Tryd.func66, Tryd.ntmps66
  go_wp2_with fail
  refine (HR.out _).mono ?_
  rintro e w1 ⟨rfl, rfl⟩
  go_wp2
  go_ret
  exact ⟨rfl, rfl⟩
end Go.Proofs.YtjifionpblpfoaaDoor

/-
  What mix of layer 10 does: sixty-four rounds. Conditions: the constants lie where they were laid.
-/
namespace Go.Proofs.YtjifionpblpfoaaDoor
open Go.RowKit
open Pol (co Sm)


/-- The complement of a word; what is chosen; what most have. -/
theorem not_sub {x : Nat} (h : x < 4294967296) : x ^^^ 4294967295 = 4294967295 - x := by
  apply Nat.eq_of_testBit_eq
  intro i
  have h1 := Nat.testBit_two_pow_sub_succ (n := 32) h i
  rw [show (2 : Nat) ^ 32 - (x + 1) = 4294967295 - x from by omega] at h1
  have h2 := Nat.testBit_two_pow_sub_one 32 i
  rw [show (2 : Nat) ^ 32 - 1 = 4294967295 from rfl] at h2
  rw [Nat.testBit_xor, h2, h1]
  by_cases hi : i < 32
  · simp [hi]
  · have : x.testBit i = false := Nat.testBit_lt_two_pow (Nat.lt_of_lt_of_le h (Nat.le_trans (by decide : 4294967296 ≤ 2 ^ 32) (Nat.pow_le_pow_right (by decide) (by omega))))
    simp [hi, this]
theorem ch_or {e f g : Nat} (h : e < 4294967296) : (e &&& f) ||| ((4294967295 - e) &&& g) = (e &&& f) ^^^ ((4294967295 - e) &&& g) := by
  rw [← not_sub h]
  apply Nat.eq_of_testBit_eq
  intro i
  have h2 := Nat.testBit_two_pow_sub_one 32 i
  rw [show (2 : Nat) ^ 32 - 1 = 4294967295 from rfl] at h2
  simp only [Nat.testBit_or, Nat.testBit_xor, Nat.testBit_and, h2]
  by_cases hi : i < 32
  · simp only [hi, decide_true]
    cases e.testBit i <;> cases f.testBit i <;> cases g.testBit i <;> rfl
  · have : e.testBit i = false := Nat.testBit_lt_two_pow (Nat.lt_of_lt_of_le h (Nat.le_trans (by decide : 4294967296 ≤ 2 ^ 32) (Nat.pow_le_pow_right (by decide) (by omega))))
    simp [hi, this]
theorem maj_or (a b c : Nat) : (a &&& b ||| a &&& c) ||| b &&& c = (a &&& b ^^^ a &&& c) ^^^ b &&& c := by
  apply Nat.eq_of_testBit_eq
  intro i
  simp only [Nat.testBit_or, Nat.testBit_xor, Nat.testBit_and]
  cases a.testBit i <;> cases b.testBit i <;> cases c.testBit i <;> rfl
theorem not_u32 {x : Nat} (h : x < 4294967296) : bits .xor .u32 IntKind.u32.max (x : Int) = ((4294967295 - x : Nat) : Int) := by
  have h1 := u32_xor_nat 4294967295 x (by decide) h
  rw [Nat.xor_comm, not_sub h] at h1
  exact h1
/-- 'a[i]' of an array by value, of elements of one cell. -/
theorem idx_arr {t e : TypeId} {n : Nat} (h : Tryd.prog.underlying t = some (.array n e)) (he : Tryd.prog.plainKey e = true) (hs : Tryd.prog.cellsOf e = 1) (hi' : ∃ q, Tryd.prog.info? e = some q)
    (V : Array Value) (i : Nat) (v : Value) (hi : i < n) (hv : V[i]? = some v) (W : World) : (Instr.index t (.agg V) (.int .i64 (i : Int))).run Tryd.prog W = .ok v W := by
  obtain ⟨q, hq⟩ := hi'
  have hn : (0 : Int) ≤ (i : Int) ∧ (i : Int) < (n : Int) := by omega
  simp only [Instr.index, asIntOf, Sem.run_bind, Sem.run_pure, Result.andThen_ok, run_underlying h, hn, and_self, if_true, run_sizeOf W hq, hs]
  rw [show (i : Int).toNat * 1 = i from by omega]
  exact run_part_plain W he hv

/-- Where mix's rounds stand. -/
structure MixW (WL : List Nat) (g : Nat) (w W : World) : Prop where
  x : Ext w W
  c : ∀ i, i < 64 → W.cell? ⟨g + 1, i, none⟩ = some (.int .u32 ((co WL i : Nat) : Int))
  r : W.heap[g + 1 + 1]? = some (.cells (dt 8 fun _ => 0) 73 (0, 0))
theorem MixW.start {V0 V1 : Array Value} {WL : List Nat} (w : World) (h1 : ∀ i, i < 64 → V1[i]? = some (.int .u32 ((co WL i : Nat) : Int))) (T U : TypeId) (q : Nat) :
    MixW WL w.heap.size w ((((w.alloc (.cells V0 T)).alloc (.cells V1 U)).alloc (.cells (dt 8 fun _ => 0) 73)).drewN q) := by
  refine ⟨((((Ext.refl w).alloc _).alloc _).alloc _).drewN q, fun i hi => ?_, ?_⟩
  · show (((w.alloc (.cells V0 T)).alloc (.cells V1 U)).alloc _).cell? _ = _
    have e : w.heap.size + 1 = (w.alloc (.cells V0 T)).heap.size := by simp
    rw [World.cell?_alloc_lt _ _ _ (by simp), e, cell_of_row _ _ _ _ _ _ (heap_alloc_new (w.alloc (.cells V0 T)) _)]
    exact h1 i hi
  · have e : w.heap.size + 1 + 1 = ((w.alloc (.cells V0 T)).alloc (.cells V1 U)).heap.size := by simp
    rw [e]
    exact heap_alloc_new _ _
theorem MixW.drewN {WL : List Nat} {g : Nat} {w W : World} (h : MixW WL g w W) (q : Nat) : MixW WL g w (W.drewN q) := ⟨h.x.drewN q, h.c, h.r⟩
theorem rnd_at (k w : Nat) (S : List Nat) : co (rnd k w S) 0 = (one k w S + two S) % 4294967296 ∧ co (rnd k w S) 1 = co S 0 ∧ co (rnd k w S) 2 = co S 1 ∧ co (rnd k w S) 3 = co S 2 ∧ co (rnd k w S) 4 = (co S 3 + one k w S) % 4294967296 ∧ co (rnd k w S) 5 = co S 4 ∧ co (rnd k w S) 6 = co S 5 ∧ co (rnd k w S) 7 = co S 6 := ⟨rfl, rfl, rfl, rfl, rfl, rfl, rfl, rfl⟩

set_option maxHeartbeats 3200000 in
set_option maxRecDepth 100000 in
theorem sh_mix (S WL : List Nat) (w : World) (hgl : GL w) (hS : W32 S) (hW : W32 WL) :
    Calls Tryd.prog 57 #[.agg (dt 8 (co S)), .agg (dt 64 (co WL))] w (Tells (.agg (dt 8 (co (rds KK WL S 64)))) w) := by
  obtain ⟨V0, hV0⟩ : ∃ V, dt 8 (co S) = V := ⟨_, rfl⟩
  obtain ⟨V1, hV1⟩ : ∃ V, dt 64 (co WL) = V := ⟨_, rfl⟩
  have hc := fun i (hi : i < 8) => dt_at 8 (co S) i hi
  have hc1 := fun i (hi : i < 64) => dt_at 64 (co WL) i hi
  rw [hV0] at hc ⊢
  rw [hV1] at hc1 ⊢
  have h0 := hc 0 (by decide)
  have h1 := hc 1 (by decide)
  have h2 := hc 2 (by decide)
  have h3 := hc 3 (by decide)
  have h4 := hc 4 (by decide)
  have h5 := hc 5 (by decide)
  have h6 := hc 6 (by decide)
  have h7 := hc 7 (by decide)
  have HS := Lib.hid (fun (T U : TypeId) (q : Nat) => MixW.start (V0 := V0) w hc1 T U q)
  have HK := Lib.hid (show ∀ W, Ext w W → ∃ T, W.heap[1]? = some (.cells (dt 64 (co KK)) T (0, 0)) from fun W hW => (hgl.ext hW).2)
  have HRD := Lib.hid (fun i => rds_w32 KK WL S hS i)
  have HW := Lib.hid hW
  have HWK := Lib.hid KK_w32
  have HST := Lib.hid (fun i => show rds KK WL S (i + 1) = rnd (co KK i) (co WL i) (rds KK WL S i) from rfl)
  have hz : dt 8 (fun _ => 0) = #[.int .u32 0, .int .u32 0, .int .u32 0, .int .u32 0, .int .u32 0, .int .u32 0, .int .u32 0, .int .u32 0] := rfl
  rw [hz] at HS
  have HRT := Lib.hid (fun x r W h1 h2 h3 => sh_right x r W h1 h2 h3)
  have HZ8 := Lib.hid (show rds KK WL S 0 = S from rfl)
  clear hc hc1 hgl hS hW hV0 hV1
  go_enter Tryd.func57, Tryd.ntmps57
  go_wp2
  go_quiet (fail)
  generalize nq = q0
  go_wp2
  go_quiet (fail)
  have hm := HS.out 73 97 (q0 + nq)
  rw [World.drewN_drewN]
  obtain ⟨g, hg⟩ : ∃ g, w.heap.size = g := ⟨_, rfl⟩
  rw [hg] at hm ⊢
  generalize (((w.alloc (Obj.cells V0 73)).alloc (Obj.cells V1 97)).alloc (Obj.cells #[.int .u32 0, .int .u32 0, .int .u32 0, .int .u32 0, .int .u32 0, .int .u32 0, .int .u32 0, .int .u32 0] 73)).drewN (q0 + nq) = W3 at hm ⊢
  have HM := Lib.hid hm
  obtain ⟨TK, hgk⟩ := HK.out _ hm.x
  have HGK := Lib.hid hgk
  have HIK := Lib.hid (show (Tryd.prog.info? 97).map (·.size) = some (dt 64 (co KK)).size from by rw [dt_size]; kernel_rfl)
  have HIX := Lib.hid (fun (i : Nat) (hi : i < 64) => show ∀ W, (Instr.index 97 (.agg (dt 64 (co KK))) (.int .i64 (i : Int))).run Tryd.prog W = .ok (.int .u32 ((co KK i : Nat) : Int)) W from fun W => idx_arr Tryd.underlying97 (by kernel_rfl) (by kernel_rfl) ⟨_, rfl⟩ _ i _ hi (dt_at 64 _ i hi) W)
  have HG := Lib.hid hg
  clear hm hgk h0 h1 h2 h3 h4 h5 h6 h7 hz hg
  generalize hVK : dt 64 (co KK) = VK at HGK HIK HIX
  clear hVK HS HK
  go_wp2_with (with_reducible refine wpList_load_row rfl 97 (.global 1) rfl 1 rfl TK VK (0, 0) _ HGK.out Tryd.underlying97 rfl HIK.out ?_)
  go_loopg [5, 6, 7, 8, 9, 10, 11, 12, 36] 64 (fun gk s5 s6 s7 s8 s9 s10 s11 s12 s36 wx => ∃ i q : Nat, i + gk = 64 ∧ s36 = .int .i64 (i : Int) ∧ s5 = .int .u32 ((co (rds KK WL S i) 0 : Nat) : Int) ∧ s6 = .int .u32 ((co (rds KK WL S i) 1 : Nat) : Int) ∧ s7 = .int .u32 ((co (rds KK WL S i) 2 : Nat) : Int) ∧ s8 = .int .u32 ((co (rds KK WL S i) 3 : Nat) : Int) ∧ s9 = .int .u32 ((co (rds KK WL S i) 4 : Nat) : Int) ∧ s10 = .int .u32 ((co (rds KK WL S i) 5 : Nat) : Int) ∧ s11 = .int .u32 ((co (rds KK WL S i) 6 : Nat) : Int) ∧ s12 = .int .u32 ((co (rds KK WL S i) 7 : Nat) : Int) ∧ wx = W3.drewN q)
  case atStart => exact ⟨0, 0, by omega, rfl, by rw [HZ8.out], by rw [HZ8.out], by rw [HZ8.out], by rw [HZ8.out], by rw [HZ8.out], by rw [HZ8.out], by rw [HZ8.out], by rw [HZ8.out], rfl⟩
  case round =>
    obtain ⟨i, q, hig, rfl, rfl, rfl, rfl, rfl, rfl, rfl, rfl, rfl, rfl⟩ := hrel
    cases gk with
    | zero =>
      obtain rfl : i = 64 := by omega
      clear hig HIX HIK HGK HRT HST HWK HW HRD
      have HMQ := Lib.hid (HM.out.drewN q)
      have HR0 := Lib.hid HMQ.out.r
      generalize W3.drewN q = W4 at HMQ HR0 ⊢
      obtain ⟨R, hR⟩ : ∃ R, rds KK WL S 64 = R := ⟨_, rfl⟩
      have HIN := Lib.hid (show (Tryd.prog.info? 73).map (·.size) = some (dt 8 (co R)).size from by rw [dt_size]; kernel_rfl)
      have HSZ := Lib.hid (show (dt 8 fun _ => 0).size = (dt 8 (co R)).size from by rw [dt_size, dt_size])
      have HON := Lib.hid (dt_one 8 (co R))
      have HG3 := Lib.hid (setRow_heap W4 (g + 1 + 1) _ (dt 8 (co R)) _ _ HR0.out)
      have HX3 := Lib.hid (HMQ.out.x.setRow (g := g + 1 + 1) (by rw [HG.out]; omega) (dt 8 (co R)))
      have HE := Lib.hid (show Value.agg (dt 8 (co R)) = .agg #[.int .u32 ((co R 0 : Nat) : Int), .int .u32 ((co R 1 : Nat) : Int), .int .u32 ((co R 2 : Nat) : Int), .int .u32 ((co R 3 : Nat) : Int), .int .u32 ((co R 4 : Nat) : Int), .int .u32 ((co R 5 : Nat) : Int), .int .u32 ((co R 6 : Nat) : Int), .int .u32 ((co R 7 : Nat) : Int)] from rfl)
      have HVE := Lib.hid (show Value.agg (dt 8 (co R)) = Value.agg (dt 8 (co (rds KK WL S 64))) from by rw [hR])
      rw [hR]
      generalize dt 8 (co R) = V at HIN HSZ HON HG3 HX3 HE HVE
      generalize hZ : dt 8 (fun _ => 0) = Z at HR0 HSZ
      clear hZ hR HM HZ8
      go_wp2_with (refine wpList_store_all rfl 73 (.tmp 4) (.tmp 108) rfl (g + 1 + 1) Z V rfl HE.out.symm HR0.out HIN.out HSZ.out HON.out ?_)
      exact ⟨rfl, .agg V, results_cell_row Tryd.results57 _ _ (g + 1 + 1) 73 V (0, 0) _ rfl HG3.out Tryd.underlying73 rfl HIN.out, by rw [HVE.out], HX3.out⟩
    | succ gk =>
      have hi : i < 64 := by omega
      have hiI : (i : Int) < 64 := by omega
      have HR := Lib.hid (HRD.out i)
      have HN := Lib.hid (HST.out i)
      have hix := HIX.out i hi
      have hcw := (HM.out.drewN q).c i hi
      obtain ⟨T, hT⟩ : ∃ T, rds KK WL S i = T := ⟨_, rfl⟩
      have hwb := HW.out.at i
      have hkb := HWK.out.at i
      rw [hT] at HR HN ⊢
      clear hT
      obtain ⟨kk, hkk⟩ : ∃ x, co KK i = x := ⟨_, rfl⟩
      obtain ⟨ww, hww⟩ : ∃ x, co WL i = x := ⟨_, rfl⟩
      rw [hkk] at hix hkb HN
      rw [hww] at hcw hwb HN
      obtain ⟨na, hna⟩ : ∃ x, (one kk ww T + two T) % 4294967296 = x := ⟨_, rfl⟩
      obtain ⟨ne, hne⟩ : ∃ x, (co T 3 + one kk ww T) % 4294967296 = x := ⟨_, rfl⟩
      have hrn := rnd_at kk ww T
      rw [hna, hne, ← HN.out] at hrn
      unfold one two at hna
      unfold one at hne
      have ba := HR.out.at 0
      have bb := HR.out.at 1
      have bc := HR.out.at 2
      have bd := HR.out.at 3
      have be := HR.out.at 4
      have bf := HR.out.at 5
      have bg := HR.out.at 6
      have bh := HR.out.at 7
      have HRN := Lib.hid hrn
      clear hrn
      generalize co T 0 = a at *
      generalize co T 1 = b at *
      generalize co T 2 = c at *
      generalize co T 3 = d at *
      generalize co T 4 = e at *
      generalize co T 5 = f at *
      generalize co T 6 = gg at *
      generalize co T 7 = h at *
      obtain ⟨n1, hn1⟩ : ∃ x, 4294967295 - e = x := ⟨_, rfl⟩
      have bn1 : n1 < 4294967296 := by omega
      have en : bits .xor .u32 IntKind.u32.max (e : Int) = (n1 : Int) := by rw [not_u32 be, hn1]
      obtain ⟨x1, hx1⟩ : ∃ x, e &&& f = x := ⟨_, rfl⟩
      obtain ⟨x2, hx2⟩ : ∃ x, n1 &&& gg = x := ⟨_, rfl⟩
      obtain ⟨ch, hch⟩ : ∃ x, x1 ||| x2 = x := ⟨_, rfl⟩
      have bx1 : x1 < 4294967296 := by rw [← hx1]; exact Nat.lt_of_le_of_lt Nat.and_le_left be
      have bx2 : x2 < 4294967296 := by rw [← hx2]; exact Nat.lt_of_le_of_lt Nat.and_le_left bn1
      have bch : ch < 4294967296 := by rw [← hch]; exact Nat.or_lt_two_pow (n := 32) bx1 bx2
      have e1 : bits .and .u32 (e : Int) (f : Int) = (x1 : Int) := by rw [u32_and_nat e f be bf, hx1]
      have e2 : bits .and .u32 (n1 : Int) (gg : Int) = (x2 : Int) := by rw [u32_and_nat n1 gg bn1 bg, hx2]
      have e3 : bits .or .u32 (x1 : Int) (x2 : Int) = (ch : Int) := by rw [u32_or_nat x1 x2 bx1 bx2, hch]
      have hcx : x1 ^^^ x2 = ch := by rw [← hch, ← hx1, ← hx2, ← hn1]; exact (ch_or be).symm
      obtain ⟨y1, hy1⟩ : ∃ x, a &&& b = x := ⟨_, rfl⟩
      obtain ⟨y2, hy2⟩ : ∃ x, a &&& c = x := ⟨_, rfl⟩
      obtain ⟨y3, hy3⟩ : ∃ x, y1 ||| y2 = x := ⟨_, rfl⟩
      obtain ⟨y4, hy4⟩ : ∃ x, b &&& c = x := ⟨_, rfl⟩
      obtain ⟨mj, hmj⟩ : ∃ x, y3 ||| y4 = x := ⟨_, rfl⟩
      have by1 : y1 < 4294967296 := by rw [← hy1]; exact Nat.lt_of_le_of_lt Nat.and_le_left ba
      have by2 : y2 < 4294967296 := by rw [← hy2]; exact Nat.lt_of_le_of_lt Nat.and_le_left ba
      have by3 : y3 < 4294967296 := by rw [← hy3]; exact Nat.or_lt_two_pow (n := 32) by1 by2
      have by4 : y4 < 4294967296 := by rw [← hy4]; exact Nat.lt_of_le_of_lt Nat.and_le_left bb
      have bmj : mj < 4294967296 := by rw [← hmj]; exact Nat.or_lt_two_pow (n := 32) by3 by4
      have f1 : bits .and .u32 (a : Int) (b : Int) = (y1 : Int) := by rw [u32_and_nat a b ba bb, hy1]
      have f2 : bits .and .u32 (a : Int) (c : Int) = (y2 : Int) := by rw [u32_and_nat a c ba bc, hy2]
      have f3 : bits .or .u32 (y1 : Int) (y2 : Int) = (y3 : Int) := by rw [u32_or_nat y1 y2 by1 by2, hy3]
      have f4 : bits .and .u32 (b : Int) (c : Int) = (y4 : Int) := by rw [u32_and_nat b c bb bc, hy4]
      have f5 : bits .or .u32 (y3 : Int) (y4 : Int) = (mj : Int) := by rw [u32_or_nat y3 y4 by3 by4, hmj]
      have hmx : y1 ^^^ y2 ^^^ y4 = mj := by rw [← hmj, ← hy3, ← hy1, ← hy2, ← hy4]; exact (maj_or a b c).symm
      rw [hn1, hx1, hx2, hcx] at hna hne
      rw [hy1, hy2, hy4, hmx] at hna
      clear hn1 hx1 hx2 hch hy1 hy2 hy3 hy4 hmj hcx hmx
      have b6 := tw_lt (n := 6) be
      have b11 := tw_lt (n := 11) be
      have b25 := tw_lt (n := 25) be
      have b2 := tw_lt (n := 2) ba
      have b13 := tw_lt (n := 13) ba
      have b22 := tw_lt (n := 22) ba
      have HT6 := Lib.hid (fun W => show Calls Tryd.prog 66 #[.int .u32 (e : Int), .int .i64 6] W (fun e' w' => e' = .returned (.int .u32 ((tw e 6 : Nat) : Int)) ∧ W = w') from HRT.out e 6 W be (by decide) (by decide))
      have HT11 := Lib.hid (fun W => show Calls Tryd.prog 66 #[.int .u32 (e : Int), .int .i64 11] W (fun e' w' => e' = .returned (.int .u32 ((tw e 11 : Nat) : Int)) ∧ W = w') from HRT.out e 11 W be (by decide) (by decide))
      have HT25 := Lib.hid (fun W => show Calls Tryd.prog 66 #[.int .u32 (e : Int), .int .i64 25] W (fun e' w' => e' = .returned (.int .u32 ((tw e 25 : Nat) : Int)) ∧ W = w') from HRT.out e 25 W be (by decide) (by decide))
      have HT2 := Lib.hid (fun W => show Calls Tryd.prog 66 #[.int .u32 (a : Int), .int .i64 2] W (fun e' w' => e' = .returned (.int .u32 ((tw a 2 : Nat) : Int)) ∧ W = w') from HRT.out a 2 W ba (by decide) (by decide))
      have HT13 := Lib.hid (fun W => show Calls Tryd.prog 66 #[.int .u32 (a : Int), .int .i64 13] W (fun e' w' => e' = .returned (.int .u32 ((tw a 13 : Nat) : Int)) ∧ W = w') from HRT.out a 13 W ba (by decide) (by decide))
      have HT22 := Lib.hid (fun W => show Calls Tryd.prog 66 #[.int .u32 (a : Int), .int .i64 22] W (fun e' w' => e' = .returned (.int .u32 ((tw a 22 : Nat) : Int)) ∧ W = w') from HRT.out a 22 W ba (by decide) (by decide))
      generalize tw e 6 = r6 at *
      generalize tw e 11 = r11 at *
      generalize tw e 25 = r25 at *
      generalize tw a 2 = r2 at *
      generalize tw a 13 = r13 at *
      generalize tw a 22 = r22 at *
      obtain ⟨t1, ht1⟩ : ∃ x, r6 ^^^ r11 = x := ⟨_, rfl⟩
      obtain ⟨t2, ht2⟩ : ∃ x, t1 ^^^ r25 = x := ⟨_, rfl⟩
      obtain ⟨v1, hv1⟩ : ∃ x, r2 ^^^ r13 = x := ⟨_, rfl⟩
      obtain ⟨v2, hv2⟩ : ∃ x, v1 ^^^ r22 = x := ⟨_, rfl⟩
      have bt1 : t1 < 4294967296 := by rw [← ht1]; exact Nat.xor_lt_two_pow (n := 32) b6 b11
      have bt2 : t2 < 4294967296 := by rw [← ht2]; exact Nat.xor_lt_two_pow (n := 32) bt1 b25
      have bv1 : v1 < 4294967296 := by rw [← hv1]; exact Nat.xor_lt_two_pow (n := 32) b2 b13
      have bv2 : v2 < 4294967296 := by rw [← hv2]; exact Nat.xor_lt_two_pow (n := 32) bv1 b22
      have g1 : bits .xor .u32 (r6 : Int) (r11 : Int) = (t1 : Int) := by rw [u32_xor_nat r6 r11 b6 b11, ht1]
      have g2 : bits .xor .u32 (t1 : Int) (r25 : Int) = (t2 : Int) := by rw [u32_xor_nat t1 r25 bt1 b25, ht2]
      have g3 : bits .xor .u32 (r2 : Int) (r13 : Int) = (v1 : Int) := by rw [u32_xor_nat r2 r13 b2 b13, hv1]
      have g4 : bits .xor .u32 (v1 : Int) (r22 : Int) = (v2 : Int) := by rw [u32_xor_nat v1 r22 bv1 b22, hv2]
      rw [ht1, ht2] at hna hne
      rw [hv1, hv2] at hna
      clear ht1 ht2 hv1 hv2
      obtain ⟨u1, hu1⟩ : ∃ x, (h + t2) % 4294967296 = x := ⟨_, rfl⟩
      obtain ⟨u2, hu2⟩ : ∃ x, (u1 + ch) % 4294967296 = x := ⟨_, rfl⟩
      obtain ⟨u3, hu3⟩ : ∃ x, (u2 + kk) % 4294967296 = x := ⟨_, rfl⟩
      obtain ⟨u4, hu4⟩ : ∃ x, (u3 + ww) % 4294967296 = x := ⟨_, rfl⟩
      obtain ⟨u5, hu5⟩ : ∃ x, (v2 + mj) % 4294967296 = x := ⟨_, rfl⟩
      have w1 : IntKind.u32.wrap ((h : Int) + (t2 : Int)) = (u1 : Int) := by rw [IntKind.wrap_u32]; omega
      have w2 : IntKind.u32.wrap ((u1 : Int) + (ch : Int)) = (u2 : Int) := by rw [IntKind.wrap_u32]; omega
      have w3 : IntKind.u32.wrap ((u2 : Int) + (kk : Int)) = (u3 : Int) := by rw [IntKind.wrap_u32]; omega
      have w4 : IntKind.u32.wrap ((u3 : Int) + (ww : Int)) = (u4 : Int) := by rw [IntKind.wrap_u32]; omega
      have w5 : IntKind.u32.wrap ((v2 : Int) + (mj : Int)) = (u5 : Int) := by rw [IntKind.wrap_u32]; omega
      have eo : (h + t2 + ch + kk + ww) % 4294967296 = u4 := by omega
      rw [eo, hu5] at hna
      rw [eo] at hne
      have w6 : IntKind.u32.wrap ((u4 : Int) + (u5 : Int)) = (na : Int) := by rw [IntKind.wrap_u32]; omega
      have w7 : IntKind.u32.wrap ((d : Int) + (u4 : Int)) = (ne : Int) := by rw [IntKind.wrap_u32]; omega
      have bu1 : u1 < 4294967296 := by omega
      have bu2 : u2 < 4294967296 := by omega
      have bu3 : u3 < 4294967296 := by omega
      have bu4 : u4 < 4294967296 := by omega
      have bu5 : u5 < 4294967296 := by omega
      have HIG := Lib.hid hig
      clear hna hne hu1 hu2 hu3 hu4 hu5 eo hig hkk hww
      generalize hWQ : W3.drewN q = Wq at hcw ⊢
      have HWQ := Lib.hid hWQ
      clear hWQ
      go_wp2
      go_quiet (first | (go_at_call 66; with_reducible exact quiet_same (HT6.out _)) | (go_at_call 66; with_reducible exact quiet_same (HT11.out _)) | (go_at_call 66; with_reducible exact quiet_same (HT25.out _)))
      go_wp2_with fail
      refine (HT2.out _).mono ?_
      rintro e' w' ⟨rfl, rfl⟩
      go_wp2_with fail
      refine (HT13.out _).mono ?_
      rintro e' w' ⟨rfl, rfl⟩
      go_wp2_with fail
      refine (HT22.out _).mono ?_
      rintro e' w' ⟨rfl, rfl⟩
      go_wp2
      go_roundg gk
      case measure => omega
      case rel => exact ⟨i + 1, q + nq, by have := HIG.out; omega, by go_num, by rw [HRN.out.1], by rw [HRN.out.2.1], by rw [HRN.out.2.2.1], by rw [HRN.out.2.2.2.1], by rw [HRN.out.2.2.2.2.1], by rw [HRN.out.2.2.2.2.2.1], by rw [HRN.out.2.2.2.2.2.2.1], by rw [HRN.out.2.2.2.2.2.2.2], by rw [← HWQ.out, World.drewN_drewN]⟩
end Go.Proofs.YtjifionpblpfoaaDoor

/-
  A region that draws its order, whose first operations leave every world of a class in that class and yield the same values in all of them, and whose last operations follow in a forced order: one walk of the text's order serves every order. Conditions: none; of no program in particular.
-/
namespace Go.Proofs.YtjifionpblpfoaaDoor
open Go

section
variable {P : Program} {ops : Array Oper} {md : Region.Mode} {C : World → Prop}

/-- f operations below n come up in whatever order, each quiet in the class; then L. -/
def ahead (P : Program) (md : Region.Mode) (ops : Array Oper) (C : World → Prop) (n : Nat) (L : Array Bool → Act → Prop) : Nat → Array Bool → Act → Prop
  | 0, listed, a => L listed a
  | f + 1, listed, a => Region.ready md ops listed ≠ [] ∧ ∀ i, i ∈ Region.ready md ops listed → i < n ∧ qOp P ops C i (ahead P md ops C n L f (listed.setIfInBounds i true)) a

theorem wpAny_of_ahead {n g : Nat} {L : Array Bool → Act → Prop} {Q' : Exit → Act → World → Prop} (hL : ∀ listed a w, C w → L listed a → wpAny P md ops Q' g listed a w) (f : Nat) :
    ∀ (listed : Array Bool) (a : Act) (w : World), C w → ahead P md ops C n L f listed a → wpAny P md ops Q' (f + g) listed a w := by
  induction f with
  | zero => intro listed a w hw h; rw [Nat.zero_add]; exact hL _ _ _ hw h
  | succ f ih =>
    intro listed a w hw h
    rw [Nat.succ_add]
    exact ⟨fun h0 => absurd h0 h.1, fun i hi => wpOp_of_qOp hw (fun a' w' hw' h' => ih _ a' w' hw' h') (h.2 i hi).2⟩

/-- What may come up now may be taken first. -/
theorem ahead_first {n i : Nat} {oi : Oper} {v : Value} {L : Array Bool → Act → Prop} (hi : ops[i]? = some oi) (hsel : ∀ (j : Nat) (o : Oper) cs b, ops[j]? = some o → o.op ≠ .select cs b)
    (hs : Region.sinkB md ops n = true) (hc : Region.chainB md ops n = true) (hn : n < ops.size) (hin : i < n)
    (hdone : ∀ listed a, L listed a → ∀ j ∈ Region.ready md ops listed, n ≤ j) (f : Nat) :
    ∀ (listed : Array Bool) (a : Act), HeadInv md ops n listed →
      (∀ j oj, ops[j]? = some oj → j ≠ i → listed.getD j true = false → (∀ e ∈ oj.after, Region.binds md e = true → e.on ≠ i) → oi.apart ops oj = true) →
      i ∈ Region.ready md ops listed → YieldsIn P ops C oi v a →
      ahead P md ops C n L f (listed.setIfInBounds i true) (a.put oi.dst v) → ahead P md ops C n L (f + 1) listed a := by
  induction f with
  | zero =>
    intro listed a inv _ hr hy H
    refine ⟨List.ne_nil_of_mem hr, fun j hj => ?_⟩
    have hjn : j < n := Nat.lt_of_not_le fun h => tail_waits hs hc hn inv _ i rfl hin (mem_ready.1 hr).1 j h hj
    by_cases hji : j = i
    · subst hji; exact ⟨hjn, hy.qOp hi H⟩
    · exact absurd (hdone _ _ H j (ready_mono hj hji)) (by omega)
  | succ f ih =>
    intro listed a inv hfree hr hy H
    have hun := (mem_ready.1 hr).1
    refine ⟨List.ne_nil_of_mem hr, fun j hj => ?_⟩
    have hjn : j < n := Nat.lt_of_not_le fun h => tail_waits hs hc hn inv _ i rfl hin hun j h hj
    by_cases hji : j = i
    · subst hji; exact ⟨hjn, hy.qOp hi H⟩
    obtain ⟨hjun, oj, hoj, hall⟩ := mem_ready.1 hj
    have hap := hfree j oj hoj hji hjun fun e he hb heq => by
      have h1 := hall e he hb
      rw [heq, getD_both hun] at h1
      cases h1
    refine ⟨hjn, qOp_mono (fun a' h3 => ih (listed.setIfInBounds j true) a' (inv.set hj hjn) ?_ (ready_mono hr (Ne.symm hji)) h3.1 ?_)
      (qOp_put hoj hap (fun cs b => hsel i oi cs b hi) (fun cs b => hsel j oj cs b hoj) hy (H.2 j (ready_mono hj hji)).2)⟩
    · intro k ok hk hki hu hno
      refine hfree k ok hk hki ?_ hno
      by_cases hjk : j = k
      · subst hjk; exact hjun
      · rwa [getD_set_ne true hjk] at hu
    · rw [Array.setIfInBounds_comm _ _ hji]; exact h3.2

theorem ahead_lex {n g : Nat} {Lq : Act → Prop} (hsel : Region.noSelect ops = true) (hs : Region.sinkB md ops n = true) (hc : Region.chainB md ops n = true) (hn : n < ops.size) (l : List Oper) :
    ∀ (k : Nat) (listed : Array Bool) (a : Act), (∀ j, j < l.length → l[j]? = ops[k + j]?) → k + l.length = n → HeadInv md ops n listed →
    Region.lexHead md ops g l.length k listed = true → wpQuiet P ops C Lq l a →
    ahead P md ops C n (fun listed' a' => Region.seqB md ops g n listed' = true ∧ Lq a') l.length listed a := by
  induction l with
  | nil =>
    intro k listed a _ hk _ hB h
    obtain rfl : k = n := by simpa using hk
    exact ⟨by simpa [Region.lexHead] using hB, h⟩
  | cons o l ih =>
    intro k listed a hl hk inv hB h
    have h0 : ops[k]? = some o := by simpa using (hl 0 (by simp)).symm
    simp only [List.length_cons, Region.lexHead, Bool.and_eq_true] at hB hk
    have hr : k ∈ Region.ready md ops listed := by simpa using hB.1.1
    obtain ⟨v, hy, hK⟩ := yieldsIn_of_qOp (C := C) (K := wpQuiet P ops C Lq l) h0 (by unfold qOp; simp only [h0]; exact h)
    refine ahead_first h0 (Region.noSelect_spec hsel) hs hc hn (by omega) (fun _ _ hL => seqB_ready hL.1) l.length listed a inv (Region.free_spec h0 hB.1.2) hr hy ?_
    exact ih (k + 1) _ _ (fun j hj => by have := hl (j + 1) (by simp; omega); simpa [Nat.add_assoc, Nat.add_comm 1 j] using this) (by omega) (inv.set hr (by omega)) hB.2 hK

theorem any_quiet_tail {Q : Exit → Act → World → Prop} {a : Act} {w : World} {l : List Oper} (n : Nat) (C : World → Prop) (hB : Region.lexTailB .any l.toArray n = true) (hC : C w.drew)
    (h : wpQuiet P l.toArray C (fun a' => ∀ w', C w' → wpList P l.toArray Q (l.drop n) a' w') (l.take n) a) : wpAny P .any l.toArray Q l.toArray.size (Array.replicate l.toArray.size false) a w.drew := by
  simp only [Region.lexTailB, Bool.and_eq_true, decide_eq_true_eq] at hB
  obtain ⟨⟨⟨⟨hsel, hn⟩, hs⟩, hc⟩, hlex⟩ := hB
  have hn' : n < l.length := by simpa using hn
  have htl : (l.take n).length = n := by rw [List.length_take]; omega
  have hdl : (l.drop n).length = l.toArray.size - n := by simp
  have inv0 : HeadInv .any l.toArray n (Array.replicate l.toArray.size false) :=
    ⟨by simp, fun j oj _ hl => (by rw [getD_replicate_false] at hl; cases hl), fun t _ ht => getD_in (by simpa using ht) (getD_replicate_false _ _)⟩
  have H := ahead_lex (md := .any) (g := l.toArray.size - n) (C := C) hsel hs hc hn (l.take n) 0 _ a (fun j hj => by
    have hj' : j < n := by rwa [htl] at hj
    simp [hj']) (by rw [htl]; exact Nat.zero_add n) inv0 (by rw [htl]; exact hlex) h
  have key := wpAny_of_ahead (C := C) (Q' := Q) (g := l.toArray.size - n) (fun listed a' w' hw' hL => by
    have := wpAny_of_seq (md := .any) (Q' := Q) (l.drop n) n listed a' w' (fun j => by simp [List.getElem?_drop]) (by rw [hdl]; exact hL.1) (hL.2 w' hw')
    rwa [hdl] at this) _ _ _ _ hC H
  rw [htl, show n + (l.toArray.size - n) = l.toArray.size by omega] at key
  exact key
theorem wp_region_quiet_tail {id : Nat} {Q : Exit → Act → World → Prop} {a : Act} {w : World} {l : List Oper} (n : Nat) (C : World → Prop) (hm : P.follows .mixedOrders = true) (hB : Region.lexTailB .any l.toArray n = true) (hC : C w.drew)
    (h : wpQuiet P l.toArray C (fun a' => ∀ w', C w' → wpList P l.toArray Q (l.drop n) a' w') (l.take n) a) : (Code.region id l.toArray true).wp P Q a w :=
  wp_region_any hm (any_quiet_tail n C hB hC h)
end
end Go.Proofs.YtjifionpblpfoaaDoor

/-
  What schedule of layer 10 does: a block's sixty-four words. Conditions: none.
-/
namespace Go.Proofs.YtjifionpblpfoaaDoor
open Go.RowKit
open Pol (co Sm)

/-- The first m bytes of a word. -/
def pw (B : Nat → Nat) (j : Nat) : Nat → Nat
  | 0 => 0
  | m + 1 => pw B j m * 256 + B (4 * j + m)
theorem pw_lt {B : Nat → Nat} (hB : ∀ i, B i < 256) (j : Nat) : ∀ m, pw B j m < 256 ^ m
  | 0 => Nat.one_pos
  | m + 1 => by
    have := pw_lt hB j m
    have := hB (4 * j + m)
    rw [pw, Nat.pow_succ]
    omega
/-- The words, when k bytes are in. -/
def pws (B : Nat → Nat) (k j : Nat) : Nat := pw B j (min 4 (k - 4 * j))
theorem pws_zero (B : Nat → Nat) (j : Nat) : pws B 0 j = 0 := by unfold pws; rw [show min 4 (0 - 4 * j) = 0 by omega]; rfl
theorem pws_step (B : Nat → Nat) (k q j : Nat) (hq : k / 4 = q) : upd (pws B k) q (pws B k q * 256 + B k) j = pws B (k + 1) j := by
  unfold upd
  by_cases e : j = q
  · subst e
    rw [if_pos rfl]
    unfold pws
    rw [show min 4 (k - 4 * j) = k - 4 * j by omega, show min 4 (k + 1 - 4 * j) = k - 4 * j + 1 by omega, pw, show 4 * j + (k - 4 * j) = k by omega]
  · rw [if_neg e]
    unfold pws
    by_cases h : j < q
    · rw [show min 4 (k - 4 * j) = 4 by omega, show min 4 (k + 1 - 4 * j) = 4 by omega]
    · rw [show min 4 (k - 4 * j) = 0 by omega, show min 4 (k + 1 - 4 * j) = 0 by omega]
theorem pws_lt {B : Nat → Nat} (hB : ∀ i, B i < 256) (k q : Nat) (hq : k / 4 = q) : pws B k q < 16777216 := by
  unfold pws
  have h := pw_lt hB q (min 4 (k - 4 * q))
  exact Nat.lt_of_lt_of_le h (Nat.le_trans (Nat.pow_le_pow_right (by decide) (show min 4 (k - 4 * q) ≤ 3 by omega)) (by decide))
def wof (B : Nat → Nat) (j : Nat) : Nat := B (4 * j) * 16777216 + B (4 * j + 1) * 65536 + B (4 * j + 2) * 256 + B (4 * j + 3)
theorem pw_four (B : Nat → Nat) (j : Nat) : pw B j 4 = wof B j := by
  simp only [pw, wof, Nat.zero_mul, Nat.zero_add, Nat.add_zero]
  omega
theorem wof_lt {B : Nat → Nat} (hB : ∀ i, B i < 256) (j : Nat) : wof B j < 4294967296 := by
  have h0 := hB (4 * j)
  have h1 := hB (4 * j + 1)
  have h2 := hB (4 * j + 2)
  have h3 := hB (4 * j + 3)
  unfold wof
  omega
theorem or_byte (x y : Nat) (hy : y < 256) : x * 256 ||| y = x * 256 + y := by
  have h := Nat.two_pow_add_eq_or_of_lt (i := 8) (b := y) hy x
  rw [Nat.mul_comm x, ← show (2 : Nat) ^ 8 = 256 from rfl, ← h]
theorem wl_end (F : Nat → Nat) (j x : Nat) : co (wl F j ++ [x]) j = x := by unfold co; rw [List.getElem?_append_right (by rw [wl_len]; exact Nat.le_refl _), wl_len, Nat.sub_self]; rfl
theorem wl_in (F : Nat → Nat) (j x i : Nat) (h : i < j) : co (wl F j ++ [x]) i = co (wl F j) i := by unfold co; rw [List.getElem?_append_left (by rw [wl_len]; exact h)]
/-- The words grow at their end alone. -/
theorem wl_pre (F : Nat → Nat) (j : Nat) : ∀ m, j < m → co (wl F m) j = co (wl F (j + 1)) j
  | 0, h => by omega
  | m + 1, h => by
    by_cases e : j = m
    · rw [e]
    · rw [wl, wl_in F m _ j (by omega)]
      exact wl_pre F j m (by omega)
theorem wl_at (F : Nat → Nat) (j m : Nat) (h : j < m) (hm : m ≤ 64) : co (wl F m) j = co (wl F 64) j := by rw [wl_pre F j m h, wl_pre F j 64 (by omega)]
theorem wl_low (F : Nat → Nat) (j : Nat) (h : j < 16) : co (wl F 64) j = F j := by
  rw [wl_pre F j 64 (by omega), wl, wl_end, if_pos h]
theorem wl_high (F : Nat → Nat) (j : Nat) (h : 16 ≤ j) (h64 : j < 64) : co (wl F 64) j = (co (wl F 64) (j - 16) + co (wl F 64) (j - 7) + sg0 (co (wl F 64) (j - 15)) + sg1 (co (wl F 64) (j - 2))) % 4294967296 := by
  rw [wl_pre F j 64 (by omega), wl, wl_end, if_neg (by omega)]
  show wnx (wl F j) j = _
  unfold wnx
  rw [wl_at F (j - 16) j (by omega) (by omega), wl_at F (j - 7) j (by omega) (by omega), wl_at F (j - 15) j (by omega) (by omega), wl_at F (j - 2) j (by omega) (by omega)]
theorem zero_words : (∀ w, (zeroValue 97).run Tryd.prog w = .ok (.agg (dt 64 fun _ => 0)) w) ∧ (Tryd.prog.info? 97).map (·.size) = some 64 := by
  rw [dt_zero]
  exact zero_of_info (by kernel_rfl)
theorem store_dt {n : Nat} {T : TypeId} (w : World) (g : Nat) (f f' : Nat → Nat) (hg : WBlk T n w g f) : (storeCells ⟨g, 0, none⟩ (dt n f').toList).run Tryd.prog w = .ok () (w.setRow g (dt n f')) := by
  have h := run_storeCells_from (P := Tryd.prog) g T (dt n f').toList 0 (dt n f) w hg (by simp [dt_size]) (fun v hv => (Array.all_eq_true_iff_forall_mem.1 (dt_one n f')) v (by simpa using hv))
  simpa using h

/-- Where schedule's loops stand: the block's bytes behind g, the result, the words. -/
structure SchW (B f : Nat → Nat) (g : Nat) (w W : World) : Prop where
  x : Ext w W
  b : W.heap[g]? = some (.cells (bt 64 B) 99 (0, 0))
  r : WBlk 97 64 W (g + 1) (fun _ => 0)
  ws : WBlk 97 64 W (g + 1 + 1) f
theorem SchW.start (B : Nat → Nat) (w : World) : SchW B (fun _ => 0) w.heap.size w (((w.alloc (.cells (bt 64 B) 99)).alloc (.cells (dt 64 fun _ => 0) 97)).alloc (.cells (dt 64 fun _ => 0) 97)) := by
  have e1 : w.heap.size + 1 = (w.alloc (.cells (bt 64 B) 99)).heap.size := by simp
  have e2 : w.heap.size + 1 + 1 = ((w.alloc (.cells (bt 64 B) 99)).alloc (.cells (dt 64 fun _ => 0) 97)).heap.size := by simp
  refine ⟨(((Ext.refl w).alloc _).alloc _).alloc _, ?_, ?_, ?_⟩
  · rw [heap_alloc_old _ _ (by simp; omega), heap_alloc_old _ _ (by simp)]
    exact heap_alloc_new w _
  · unfold WBlk
    rw [heap_alloc_old _ _ (by rw [e1]; simp), e1]
    exact heap_alloc_new _ _
  · rw [e2]
    exact WBlk.new _ _
theorem SchW.store {B f : Nat → Nat} {g : Nat} {w W : World} (h : SchW B f g w W) (hg : w.heap.size = g) (j v : Nat) : SchW B (upd f j v) g w (W.setCell ⟨g + 1 + 1, j, none⟩ (.int .u32 (v : Int))) :=
  ⟨h.x.setCell (by rw [hg]; show g ≤ g + 1 + 1; omega) _, (heap_setCell_other W ⟨g + 1 + 1, j, none⟩ g _ (by simp; omega)).trans h.b, (heap_setCell_other W ⟨g + 1 + 1, j, none⟩ (g + 1) _ (by simp)).trans h.r, h.ws.store j v⟩
theorem SchW.congr {B f f' : Nat → Nat} {g : Nat} {w W : World} (h : SchW B f g w W) (hf : ∀ i, i < 64 → f i = f' i) : SchW B f' g w W := ⟨h.x, h.b, h.r, h.ws.congr hf⟩
theorem SchW.drewN {B f : Nat → Nat} {g : Nat} {w W : World} (h : SchW B f g w W) (q : Nat) : SchW B f g w (W.drewN q) := ⟨h.x.drewN q, h.b, h.r, h.ws⟩
theorem info_words (f : Nat → Nat) : (Tryd.prog.info? 97).map (·.size) = some (dt 64 f).size := by rw [dt_size]; exact zero_words.2
theorem info_block (f : Nat → Nat) : (Tryd.prog.info? 99).map (·.size) = some (bt 64 f).size := by rw [bt_size]; kernel_rfl

set_option maxHeartbeats 3200000 in
set_option maxRecDepth 100000 in
theorem sh_schedule (B : Nat → Nat) (w : World) (hB : ∀ i, B i < 256) :
    Calls Tryd.prog 58 #[.agg (bt 64 B)] w (Tells (.agg (dt 64 (co (wl (wof B) 64)))) w) := by
  obtain ⟨g, hg⟩ : ∃ g, w.heap.size = g := ⟨_, rfl⟩
  have HG := Lib.hid hg
  have hst := SchW.start B w
  have HB := Lib.hid hB
  have HIX := Lib.hid (fun (i : Nat) (hi : i < 64) => show ∀ W, (Instr.index 99 (.agg (bt 64 B)) (.int .i64 (i : Int))).run Tryd.prog W = .ok (.int .u8 ((B i : Nat) : Int)) W from fun W => idx_arr Tryd.underlying99 (by kernel_rfl) (by kernel_rfl) ⟨_, rfl⟩ _ i _ hi (bt_at 64 B i hi) W)
  have HIB := Lib.hid (info_block B)
  have hz := zero_words.1
  have hzs : (dt 64 fun _ => 0).size = 64 := dt_size _ _
  have hzo := dt_one 64 (fun _ => 0)
  have hs2 := store_dt (n := 64) (T := 97) _ _ _ (fun _ => 0) hst.ws
  rw [setRow_same _ _ _ _ hst.ws] at hs2
  have HBB := Lib.hid hst.b
  rw [hg] at HBB hst
  have HST := Lib.hid hst
  clear hst hB
  generalize hVB : bt 64 B = VB at *
  generalize hZ : (dt 64 fun _ => 0) = Z at *
  clear hVB hg
  go_enter Tryd.func58, Tryd.ntmps58
  go_wp2_with (with_reducible refine wpList_load_row rfl 99 (.tmp 1) rfl w.heap.size rfl 99 VB (0, 0) _ (by rw [HG.out]; exact HBB.out) Tryd.underlying99 rfl HIB.out ?_)
  rw [HG.out]
  rw [HG.out] at hs2
  generalize ((w.alloc (Obj.cells VB 99)).alloc (Obj.cells Z 97)).alloc (Obj.cells Z 97) = W3 at HST
  have HIZ := Lib.hid (show Z.size = 64 from hzs)
  have HZ := Lib.hid hZ
  clear hz hzs hzo hs2 hZ
  go_loopg [11] 64 (fun gk s11 wx => ∃ k : Nat, k + gk = 64 ∧ s11 = .int .i64 (k : Int) ∧ SchW B (pws B k) g w wx)
  case atStart => exact ⟨0, by omega, rfl, HST.out.congr (fun j _ => (pws_zero B j).symm)⟩
  case round =>
    obtain ⟨k, hkg, rfl, hw⟩ := hrel
    have HW := Lib.hid hw
    have HKG := Lib.hid hkg
    clear hw
    cases gk with
    | zero =>
      obtain rfl : k = 64 := by omega
      have HF := Lib.hid (HW.out.congr (f' := fun j => if j < 16 then co (wl (wof B) 64) j else 0) (fun j hj => by
        unfold pws
        by_cases h : j < 16
        · rw [if_pos h, show min 4 (64 - 4 * j) = 4 by omega, pw_four, wl_low _ j h]
        · rw [if_neg h, show min 4 (64 - 4 * j) = 0 by omega]; rfl))
      have HWH := Lib.hid (fun j h h64 => wl_high (wof B) j h h64)
      have HWB := Lib.hid (fun j => (wl_w32 (wof B) (wof_lt HB.out) 64).at j)
      have HRT := Lib.hid (fun x r W h1 h2 h3 => sh_right x r W h1 h2 h3)
      clear HW HIX HB HST HBB hkg
      generalize wl (wof B) 64 = L at *
      go_wp2_with fail
      go_loopg [6] 48 (fun gk s6 wx => ∃ i : Nat, i + gk = 64 ∧ 16 ≤ i ∧ s6 = .int .i64 (i : Int) ∧ SchW B (fun j => if j < i then co L j else 0) g w wx)
      case atStart => exact ⟨16, by omega, by omega, rfl, HF.out⟩
      case round =>
        obtain ⟨i, hig, hi16, rfl, hw⟩ := hrel
        have HW := Lib.hid hw
        have HIG := Lib.hid hig
        clear hw
        cases gk with
        | zero =>
          obtain rfl : i = 64 := by omega
          have hb : WBlk 97 64 wr (g + 1 + 1) (co L) := (HW.out.congr (fun j hj => if_pos hj)).ws
          have hr := HW.out.r
          unfold WBlk at hb hr
          rw [HZ.out] at hr
          have HR0 := Lib.hid hr
          have HBL := Lib.hid hb
          have HIN := Lib.hid (info_words (co L))
          have HSZ := Lib.hid (show Z.size = (dt 64 (co L)).size from by rw [HIZ.out, dt_size])
          have HON := Lib.hid (dt_one 64 (co L))
          have HG3 := Lib.hid (setRow_heap wr (g + 1) _ (dt 64 (co L)) _ _ hr)
          have HX3 := Lib.hid (HW.out.x.setRow (g := g + 1) (by rw [HG.out]; omega) (dt 64 (co L)))
          have HVE := Lib.hid (show Value.agg (dt 64 (co L)) = Value.agg (dt 64 (co L)) from rfl)
          generalize dt 64 (co L) = V at *
          clear hb hr hig
          go_wp2_with (first | (with_reducible refine wpList_load_row rfl 97 (.tmp 3) rfl (g + 1 + 1) rfl 97 V (0, 0) _ HBL.out Tryd.underlying97 rfl HIN.out ?_) | (with_reducible refine wpList_store_all rfl 97 (.tmp 2) (.tmp 70) rfl (g + 1) Z V rfl rfl HR0.out HIN.out HSZ.out HON.out ?_))
          exact ⟨rfl, .agg V, results_cell_row Tryd.results58 _ _ (g + 1) 97 V (0, 0) _ rfl HG3.out Tryd.underlying97 rfl HIN.out, rfl, HX3.out⟩
        | succ gk =>
          have hi : i < 64 := by omega
          have hiI : (i : Int) < 64 := by omega
          have HN := Lib.hid (fun q => ((HW.out.drewN q).store HG.out i (co L i)).congr (f' := fun j => if j < i + 1 then co L j else 0) (fun j _ => by
            unfold upd
            by_cases h : j = i
            · subst h; rw [if_pos rfl, if_pos (by omega)]
            · rw [if_neg h]
              show (if j < i then co L j else 0) = if j < i + 1 then co L j else 0
              by_cases h2 : j < i
              · rw [if_pos h2, if_pos (by omega)]
              · rw [if_neg h2, if_neg (by omega)]))
          obtain ⟨p16, hp16⟩ : ∃ p, i - 16 = p := ⟨_, rfl⟩
          obtain ⟨p15, hp15⟩ : ∃ p, i - 15 = p := ⟨_, rfl⟩
          obtain ⟨p7, hp7⟩ : ∃ p, i - 7 = p := ⟨_, rfl⟩
          obtain ⟨p2, hp2⟩ : ∃ p, i - 2 = p := ⟨_, rfl⟩
          have hwh := HWH.out i hi16 hi
          rw [hp16, hp15, hp7, hp2] at hwh
          have c16 := HW.out.ws.cell p16 (by omega)
          rw [if_pos (by omega)] at c16
          have c15 := HW.out.ws.cell p15 (by omega)
          rw [if_pos (by omega)] at c15
          have c7 := HW.out.ws.cell p7 (by omega)
          rw [if_pos (by omega)] at c7
          have c2 := HW.out.ws.cell p2 (by omega)
          rw [if_pos (by omega)] at c2
          have b16 := HWB.out p16
          have b15 := HWB.out p15
          have b7 := HWB.out p7
          have b2 := HWB.out p2
          have hci := HW.out.ws.cell i hi
          have hfz := HW.out.ws.frozen i
          rw [if_neg (by omega)] at hci
          have k16 : (p16 : Int) < 64 := by omega
          have k15 : (p15 : Int) < 64 := by omega
          have k7 : (p7 : Int) < 64 := by omega
          have k2 : (p2 : Int) < 64 := by omega
          have m16 : wrap64 ((i : Int) - 16) = (p16 : Int) := by unfold wrap64; omega
          have m15 : wrap64 ((i : Int) - 15) = (p15 : Int) := by unfold wrap64; omega
          have m7 : wrap64 ((i : Int) - 7) = (p7 : Int) := by unfold wrap64; omega
          have m2 : wrap64 ((i : Int) - 2) = (p2 : Int) := by unfold wrap64; omega
          have W16 : IntKind.i64.wrap (p16 : Int) = (p16 : Int) := IntWalk.i64_in _ (by omega)
          have W7 : IntKind.i64.wrap (p7 : Int) = (p7 : Int) := IntWalk.i64_in _ (by omega)
          have M16 : (i : Int) - 16 = (p16 : Int) := by omega
          have M15 : (i : Int) - 15 = (p15 : Int) := by omega
          have M7 : (i : Int) - 7 = (p7 : Int) := by omega
          have M2 : (i : Int) - 2 = (p2 : Int) := by omega
          obtain ⟨v, hv⟩ : ∃ v, co L i = v := ⟨_, rfl⟩
          rw [hv] at hwh HN
          generalize co L p16 = a16 at *
          generalize co L p15 = a15 at *
          generalize co L p7 = a7 at *
          generalize co L p2 = a2 at *
          unfold sg0 sg1 at hwh
          clear hp16 hp15 hp7 hp2 hv hig
          have b7' := tw_lt (n := 7) b15
          have b18 := tw_lt (n := 18) b15
          have b17 := tw_lt (n := 17) b2
          have b19 := tw_lt (n := 19) b2
          have HT7 := Lib.hid (fun W => show Calls Tryd.prog 66 #[.int .u32 (a15 : Int), .int .i64 7] W (fun e' w' => e' = .returned (.int .u32 ((tw a15 7 : Nat) : Int)) ∧ W = w') from HRT.out a15 7 W b15 (by decide) (by decide))
          have HT18 := Lib.hid (fun W => show Calls Tryd.prog 66 #[.int .u32 (a15 : Int), .int .i64 18] W (fun e' w' => e' = .returned (.int .u32 ((tw a15 18 : Nat) : Int)) ∧ W = w') from HRT.out a15 18 W b15 (by decide) (by decide))
          have HT17 := Lib.hid (fun W => show Calls Tryd.prog 66 #[.int .u32 (a2 : Int), .int .i64 17] W (fun e' w' => e' = .returned (.int .u32 ((tw a2 17 : Nat) : Int)) ∧ W = w') from HRT.out a2 17 W b2 (by decide) (by decide))
          have HT19 := Lib.hid (fun W => show Calls Tryd.prog 66 #[.int .u32 (a2 : Int), .int .i64 19] W (fun e' w' => e' = .returned (.int .u32 ((tw a2 19 : Nat) : Int)) ∧ W = w') from HRT.out a2 19 W b2 (by decide) (by decide))
          generalize tw a15 7 = r7 at *
          generalize tw a15 18 = r18 at *
          generalize tw a2 17 = r17 at *
          generalize tw a2 19 = r19 at *
          obtain ⟨d3, hd3⟩ : ∃ d, a15 / 8 = d := ⟨_, rfl⟩
          obtain ⟨d10, hd10⟩ : ∃ d, a2 / 1024 = d := ⟨_, rfl⟩
          obtain ⟨x1, hx1⟩ : ∃ x, r7 ^^^ r18 = x := ⟨_, rfl⟩
          obtain ⟨x2, hx2⟩ : ∃ x, x1 ^^^ d3 = x := ⟨_, rfl⟩
          obtain ⟨y1, hy1⟩ : ∃ x, r17 ^^^ r19 = x := ⟨_, rfl⟩
          obtain ⟨y2, hy2⟩ : ∃ x, y1 ^^^ d10 = x := ⟨_, rfl⟩
          rw [hd3, hd10, hx1, hx2, hy1, hy2] at hwh
          have bd3 : d3 < 4294967296 := by omega
          have bd10 : d10 < 4294967296 := by omega
          have bx1 : x1 < 4294967296 := by rw [← hx1]; exact Nat.xor_lt_two_pow (n := 32) b7' b18
          have bx2 : x2 < 4294967296 := by rw [← hx2]; exact Nat.xor_lt_two_pow (n := 32) bx1 bd3
          have by1 : y1 < 4294967296 := by rw [← hy1]; exact Nat.xor_lt_two_pow (n := 32) b17 b19
          have by2 : y2 < 4294967296 := by rw [← hy2]; exact Nat.xor_lt_two_pow (n := 32) by1 bd10
          have g1 : bits .xor .u32 (r7 : Int) (r18 : Int) = (x1 : Int) := by rw [u32_xor_nat r7 r18 b7' b18, hx1]
          have g2 : bits .xor .u32 (x1 : Int) (d3 : Int) = (x2 : Int) := by rw [u32_xor_nat x1 d3 bx1 bd3, hx2]
          have g3 : bits .xor .u32 (r17 : Int) (r19 : Int) = (y1 : Int) := by rw [u32_xor_nat r17 r19 b17 b19, hy1]
          have g4 : bits .xor .u32 (y1 : Int) (d10 : Int) = (y2 : Int) := by rw [u32_xor_nat y1 d10 by1 bd10, hy2]
          have t3 : (a15 : Int).tdiv 8 = (d3 : Int) := by rw [Int.tdiv_eq_ediv_of_nonneg (by omega)]; omega
          have t3' : (a15 : Int) / 8 = (d3 : Int) := by omega
          have t10 : (a2 : Int).tdiv 1024 = (d10 : Int) := by rw [Int.tdiv_eq_ediv_of_nonneg (by omega)]; omega
          have t10' : (a2 : Int) / 1024 = (d10 : Int) := by omega
          obtain ⟨u1, hu1⟩ : ∃ x, (a16 + x2) % 4294967296 = x := ⟨_, rfl⟩
          obtain ⟨u2, hu2⟩ : ∃ x, (u1 + a7) % 4294967296 = x := ⟨_, rfl⟩
          have w1 : IntKind.u32.wrap ((a16 : Int) + (x2 : Int)) = (u1 : Int) := by rw [IntKind.wrap_u32]; omega
          have w2 : IntKind.u32.wrap ((u1 : Int) + (a7 : Int)) = (u2 : Int) := by rw [IntKind.wrap_u32]; omega
          have w3 : IntKind.u32.wrap ((u2 : Int) + (y2 : Int)) = (v : Int) := by rw [IntKind.wrap_u32]; omega
          have bu1 : u1 < 4294967296 := by omega
          have bu2 : u2 < 4294967296 := by omega
          have HI16 := Lib.hid hi16
          clear hi16 hwh hd3 hd10 hx1 hx2 hy1 hy2 hu1 hu2
          go_wp2
          go_quiet (fail)
          generalize nq = q1
          have HN1 := Lib.hid (fun q => HN.out (q1 + q))
          have C16 : (wr.drewN q1).cell? ⟨g + 1 + 1, p16, none⟩ = some (.int .u32 (a16 : Int)) := c16
          have C7 : (wr.drewN q1).cell? ⟨g + 1 + 1, p7, none⟩ = some (.int .u32 (a7 : Int)) := c7
          have CI : (wr.drewN q1).cell? ⟨g + 1 + 1, i, none⟩ = some (.int .u32 ((0 : Nat) : Int)) := hci
          have FI : (wr.drewN q1).frozen? ⟨g + 1 + 1, i, none⟩ = false := hfz
          simp only [← World.drewN_drewN] at HN1
          generalize wr.drewN q1 = W1 at HN1 C16 C7 CI FI ⊢
          clear hci hfz c16 c15 c7 c2
          go_wp2_with fail
          refine (HT7.out _).mono ?_
          rintro e' w' ⟨rfl, rfl⟩
          go_wp2_with fail
          refine (HT18.out _).mono ?_
          rintro e' w' ⟨rfl, rfl⟩
          go_wp2_with fail
          refine (HT17.out _).mono ?_
          rintro e' w' ⟨rfl, rfl⟩
          go_wp2_with fail
          refine (HT19.out _).mono ?_
          rintro e' w' ⟨rfl, rfl⟩
          go_wp2
          refine wp_region_quiet_tail 15 (fun w' => ∃ q, w' = W1.drewN q) (by kernel_rfl) (by kernel_rfl) ⟨1, rfl⟩ ?_
          simp only [List.take_succ_cons, List.take_zero, List.drop_succ_cons, List.drop_zero]
          repeat (quiet_step (fail))
          refine wpQuiet_nil ?_
          rintro _ ⟨q2, rfl⟩
          go_wp2
          go_roundg gk
          case measure => omega
          case rel => exact ⟨i + 1, by have := HIG.out; omega, by have := HI16.out; omega, by go_num, HN1.out q2⟩
    | succ gk =>
      have hk : k < 64 := by omega
      have hkI : (k : Int) < 64 := by omega
      have hix := HIX.out k hk
      have hy8 := HB.out k
      obtain ⟨q, hq⟩ : ∃ q, k / 4 = q := ⟨_, rfl⟩
      have hq64 : q < 64 := by omega
      have hqI : (q : Int) < 64 := by omega
      have hc := HW.out.ws.cell q hq64
      have hfz := HW.out.ws.frozen q
      have hx24 := pws_lt HB.out k q hq
      have hn := HW.out.store HG.out q (pws B k q * 256 + B k)
      have HN := Lib.hid (hn.congr (fun j _ => pws_step B k q j hq))
      clear hn
      obtain ⟨x, hx⟩ : ∃ x, pws B k q = x := ⟨_, rfl⟩
      obtain ⟨y, hy⟩ : ∃ y, B k = y := ⟨_, rfl⟩
      rw [hx] at hc hx24 HN
      rw [hy] at hix hy8 HN
      obtain ⟨x8, hx8⟩ : ∃ v, x * 256 = v := ⟨_, rfl⟩
      obtain ⟨z, hz⟩ : ∃ v, x8 + y = v := ⟨_, rfl⟩
      rw [hx8, hz] at HN
      have e1 : (k : Int) / 4 = (q : Int) := by omega
      have e1' : (k : Int).tdiv 4 = (q : Int) := by rw [Int.tdiv_eq_ediv_of_nonneg (by omega)]; omega
      have e2 : IntKind.u32.wrap ((x : Int) * 256) = (x8 : Int) := by rw [IntKind.wrap_u32]; omega
      have e2' : (x : Int) * 256 = (x8 : Int) := by omega
      have e4 : (x8 : Int) % 4294967296 = (x8 : Int) := by omega
      have e3 : bits .or .u32 (x8 : Int) (y : Int) = (z : Int) := by rw [u32_or_nat x8 y (by omega) (by omega), ← hx8, or_byte x y hy8, hx8, hz]
      clear hq hx hy hx8 hz hkg hx24
      go_wp2
      go_roundg gk
      case measure => omega
      case rel => exact ⟨k + 1, by have := HKG.out; omega, by go_num, HN.out⟩
end Go.Proofs.YtjifionpblpfoaaDoor

/-
  Slices of numbers of one kind that read as a list, and such slices of a call's own: what append does with them. Conditions: the lengths add up to no more than 2^20.
-/
namespace Go.Proofs.YtjifionpblpfoaaDoor
open Go.RowKit
open Pol (co Sm)

/-- S is the type of slices of T, numbers of kind k. -/
structure NumT (S T : TypeId) (k : IntKind) : Prop where
  sl : Tryd.prog.underlying S = some (.slice T)
  info : ∃ m, m ≤ 8 ∧ 0 < m ∧ (Tryd.prog.info? T).map (fun i => (i.zero, i.size, i.bytes)) = some (some (.int k 0), 1, m)
  el : Tryd.prog.elem S = T
theorem nt64 : NumT 91 22 .u64 := ⟨Tryd.underlying91, ⟨8, by decide, by decide, by kernel_rfl⟩, by kernel_rfl⟩
theorem nt32 : NumT 93 72 .u32 := ⟨Tryd.underlying93, ⟨4, by decide, by decide, by kernel_rfl⟩, by kernel_rfl⟩

section
variable {S T : TypeId} {k : IntKind}
def nv (k : IntKind) (l : List Nat) : List Value := l.map fun x : Nat => Value.int k (x : Int)
theorem nv_len (l : List Nat) : (nv k l).length = l.length := by simp [nv]
theorem nv_at (l : List Nat) (i : Nat) (h : i < l.length) : (nv k l)[i]? = some (.int k ((co l i : Nat) : Int)) := by simp [nv, co, List.getElem?_eq_getElem h]
theorem nv_append (l m : List Nat) : nv k (l ++ m) = nv k l ++ nv k m := by simp [nv]
/-- From address A on lie the numbers l. -/
def NRd (k : IntKind) (w : World) (A : Option Addr) (l : List Nat) : Prop := ∀ i, i < l.length → ∃ b o, A = some ⟨b, o, none⟩ ∧ w.cell? ⟨b, o + i, none⟩ = some (.int k ((co l i : Nat) : Int))
theorem NRd.ext {w w' : World} {A : Option Addr} {l : List Nat} (h : NRd k w A l) (hx : Ext w w') : NRd k w' A l := fun i hi => by
  obtain ⟨b, o, e, hc⟩ := h i hi
  exact ⟨b, o, e, (hx.below.cell (p := ⟨b, o + i, none⟩) (block_lt_of_cell hc)).trans hc⟩
theorem NRd.nil (w : World) (A : Option Addr) : NRd k w A [] := fun i hi => absurd hi (by simp)
/-- A slice of numbers of the call's own. -/
def NMine (T : TypeId) (k : IntKind) (w : World) (base : Nat) (v : Value) (l : List Nat) : Prop := w.ownsRow base T 1 v l.length (nv k l)
theorem NMine.nil (w : World) (base : Nat) : NMine T k w base (.slice none 0 0) [] := World.ownsRow_nil w base _ _
theorem NMine.slice {w : World} {base : Nat} {v : Value} {l : List Nat} (h : NMine T k w base v l) : ∃ B c, v = .slice B l.length c ∧ l.length ≤ c ∧ NRd k w B l := by
  rcases h.2 with ⟨rfl, hn⟩ | ⟨g, cap, cur, rfl, _, hg, hnc, _, _, htake⟩
  · have : l = [] := List.eq_nil_of_length_eq_zero hn
    subst this
    exact ⟨none, 0, rfl, Nat.le_refl _, NRd.nil _ _⟩
  · refine ⟨_, cap, rfl, hnc, fun i hi => ⟨g, 0, rfl, ?_⟩⟩
    rw [Nat.zero_add, cell_of_row w g i cur _ _ hg, ← nv_at l i hi, ← htake, List.getElem?_take, if_pos (by omega)]
    simp
theorem NMine.ext {w w' : World} {base : Nat} {v : Value} {l : List Nat} (h : NMine T k w base v l) (hx : Ext w w') : NMine T k w' base v l :=
  World.ownsRow.kept h (row := none) ⟨hx.below.os, hx.below.tape, hx.below.output, hx.below.size, fun k hk _ => hx.below.block k hk⟩ (by
    cases hb : v.ownBlock with
    | none => exact .inl rfl
    | some k => exact .inr (by simp))
theorem NMine.keep {w w' : World} {base : Nat} {v : Value} {l : List Nat} {row : Option Nat} (h : NMine T k w base v l) (hg : w.grownBy w' row) (hne : ∀ k, v.ownBlock = some k → some k ≠ row) : NMine T k w' base v l :=
  World.ownsRow.kept h hg (by
    cases hb : v.ownBlock with
    | none => exact .inl rfl
    | some k => exact .inr (hne k hb))
theorem NMine.down {w : World} {base base' : Nat} {v : Value} {l : List Nat} (h : NMine T k w base v l) (hb : base' ≤ base) : NMine T k w base' v l :=
  ⟨h.1, h.2.imp id fun ⟨g, cap, cur, h1, h2, h3⟩ => ⟨g, cap, cur, h1, Nat.le_trans hb h2, h3⟩⟩
theorem NMine.block {w : World} {base : Nat} {v : Value} {l : List Nat} (h : NMine T k w base v l) : ∀ k, v.ownBlock = some k → base ≤ k ∧ k < w.heap.size := fun k hk => World.ownsRow.lt h k hk
theorem nmine_lit (w : World) (l : List Nat) (h : l.length ≤ 1048576) : NMine T k (w.alloc (.cells (nv k l).toArray T)) w.heap.size (.slice (some ⟨w.heap.size, 0, none⟩) l.length l.length) l := by
  have h1 := World.ownsRow_lit w (e := T) (size := 1) (base := w.heap.size) (nv k l).toArray l.length (Nat.le_refl _) (by unfold maxLen; omega) (by simp [nv_len])
  exact h1
theorem nrd_lit (w : World) (l : List Nat) : NRd k (w.alloc (.cells (nv k l).toArray T)) (some ⟨w.heap.size, 0, none⟩) l := fun i hi =>
  ⟨w.heap.size, 0, rfl, by
    rw [cell_of_row _ _ _ _ _ _ (heap_alloc_new w _), Nat.zero_add]
    simpa using nv_at l i hi⟩
set_option maxRecDepth 100000 in
theorem wpList_append_nums (nt : NumT S T k) {ops : Array Oper} {rest : List Oper} {o : Oper} {a : Act} {w : World} {Q : Exit → Act → World → Prop} (hgd : o.guard = none) (s x : Operand)
    (ho : o.op = .call { callee := .builtin .append, args := #[s, x], argTypes := #[S, S] })
    (base : Nat) (v : Value) (l m : List Nat) (hs : a.eval s = v) (hown : NMine T k w base v l) (b p n c : Nat) (hx : a.eval x = .slice (some ⟨b, p, none⟩) n c) (hn : m.length = n) (hr : ∀ i, i < m.length → w.cell? ⟨b, p + i, none⟩ = some (.int k ((co m i : Nat) : Int)))
    (hlen : l.length + m.length ≤ 1048576) (hbase : base ≤ w.heap.size)
    (h : ∀ v' w', NMine T k w' base v' (l ++ m) → w.grownBy w' v.ownBlock → (v'.ownBlock = v.ownBlock ∨ v'.ownBlock = some w.heap.size) → wpList Tryd.prog ops Q rest (a.put o.dst v') w') :
    wpList Tryd.prog ops Q (o :: rest) a w := by
  subst hn
  refine wpList_plain hgd fun K hK => ?_
  obtain ⟨z, hz8, hz0', hinf⟩ := nt.info
  obtain ⟨i0, hi, hz0, hz1, hz2⟩ := info_parts hinf
  obtain ⟨v', w', h1, h2, h3, _, h5⟩ := run_append_own_at (P := Tryd.prog) w base S o.type T i0 (.int k 0) 1 z nt.sl hi hz0 hz1 hz2 rfl (by omega) v l.length (nv k l) hown ⟨b, p, none⟩ m.length c (nv k m) (by rw [nv_len, Nat.mul_one])
    (fun j u hu => by
      have hj : j < m.length := by
        have := (List.getElem?_eq_some_iff.1 hu).1
        rwa [nv_len] at this
      rw [addr_add, hr j hj, ← nv_at m j hj, hu]) (fun u hu => by
      obtain ⟨y, _, rfl⟩ := List.mem_map.1 hu
      rfl) (by unfold maxLen; omega) (by
        have : (l.length + m.length) * z ≤ 1048576 * 8 := Nat.mul_le_mul hlen hz8
        omega) hbase
  unfold Oper.wp execOp
  simp only [ho, resolve, invoke, builtin, Sem.run_bind, Sem.run_pure, Result.andThen_ok, List.map_toArray, List.map_cons, List.map_nil, hs, hx, h1]
  exact hK _ _ (h v' w' (by unfold NMine; rw [List.length_append, nv_append]; exact h2) h3 h5)
/-- One number that a literal holds. -/
theorem one_num {w : World} {x : Nat} {T : TypeId} : ∀ i, i < [x].length → (w.alloc (.cells #[.int k (x : Int)] T)).cell? ⟨w.heap.size, 0 + i, none⟩ = some (.int k ((co [x] i : Nat) : Int)) := fun i hi => by
  have h0 : i = 0 := by simpa using hi
  subst h0
  rw [cell_of_row _ _ _ _ _ _ (heap_alloc_new w _)]
  rfl
end
end Go.Proofs.YtjifionpblpfoaaDoor

/-
  What the document's own times of layer 10 does. Conditions: no more than 2^16 digits.
-/
namespace Go.Proofs.YtjifionpblpfoaaDoor
open Go.RowKit
open Pol (co Sm)

/-- Numbers of a call's own. -/
def GivesN (k : IntKind) (T : TypeId) (l : List Nat) (w : World) (e : Ending) (w' : World) : Prop := ∃ v, e = .returned v ∧ NMine T k w' w.heap.size v l ∧ Ext w w'
theorem drop_co (l : List Nat) (i : Nat) (h : i < l.length) : l.drop i = co l i :: l.drop (i + 1) := by
  rw [List.drop_eq_getElem_cons h, show co l i = l[i] from by simp [co, List.getElem?_eq_getElem h]]

set_option maxHeartbeats 800000 in
set_option maxRecDepth 100000 in
theorem ref10_times (l : List Nat) (n : Nat) (b o c : Nat) (w : World) (hr : ∀ i, i < l.length → w.cell? ⟨b, o + i, none⟩ = some (.int .u64 ((co l i : Nat) : Int))) (hl : l.length ≤ 65536) (hd : Dg l) (hn : n < 1099511627776) :
    Calls Tryd.prog 68 #[.slice (some ⟨b, o, none⟩) l.length c, .int .u64 (n : Int)] w (GivesN .u64 22 (tms n 0 l) w) := by
  unfold GivesN
  have hok := tms_ok n (by omega) l 0 hd (Nat.zero_le _)
  have HLEN := Lib.hid hok.2.2
  have HD := Lib.hid hd
  have HR := Lib.hid hr
  obtain ⟨L, hL⟩ : ∃ L, l.length = L := ⟨_, rfl⟩
  have HL := Lib.hid hL
  rw [hL] at hl HLEN HR ⊢
  obtain ⟨V, hV⟩ : ∃ V, tms n 0 l = V := ⟨_, rfl⟩
  have HV := Lib.hid (show [] ++ tms n 0 (l.drop 0) = V from hV)
  rw [hV] at HLEN ⊢
  clear hr hL hV hok hd
  go_enter Tryd.func68, Tryd.ntmps68
  go_wp2
  go_loopg [5, 6, 7] V.length (fun g s5 s6 s7 wx => ∃ (i cy : Nat) (out : List Nat), out ++ tms n cy (l.drop i) = V ∧ (tms n cy (l.drop i)).length = g ∧ cy ≤ n ∧ out.length = i ∧ s7 = .int .i64 (i : Int) ∧ s6 = .int .u64 (cy : Int) ∧ NMine 22 .u64 wx w.heap.size s5 out ∧ Ext w wx)
  case atStart => exact ⟨0, 0, [], HV.out, by rw [← HV.out]; rfl, Nat.zero_le _, rfl, rfl, rfl, NMine.nil _ _, Ext.refl _⟩
  case round =>
    obtain ⟨i, cy, out, hov, hg, hcy, hiV, rfl, rfl, hm, hx⟩ := hrel
    have hVl : V.length ≤ 65540 := by have := HLEN.out; omega
    have HM := Lib.hid hm
    have HX := Lib.hid hx
    obtain ⟨B5, c5, rfl, hc5, _⟩ := hm.slice
    have hol : out.length + gk = V.length := by rw [← hov, List.length_append, hg]
    have hs := hx.size
    obtain ⟨lo, hlo⟩ : ∃ lo, out.length = lo := ⟨_, rfl⟩
    have HLO := Lib.hid hlo
    rw [hlo] at hol HM hc5 hiV ⊢
    have hiV2 := hiV.symm
    clear hiV
    subst hiV2
    clear hm hx hlo
    by_cases hi : i < L
    · have d1 : decide ((i : Int) < (L : Int)) = true := decide_eq_true (by omega)
      have hiI : (i : Int) < (L : Int) := by omega
      have hcell := (HX.out.below.cell (p := ⟨b, o + i, none⟩) (block_lt_of_cell (HR.out i hi))).trans (HR.out i hi)
      have hd16 : co l i < 65536 := HD.out.at i
      rw [drop_co l i (by rw [HL.out]; exact hi), tms_cons] at hov hg
      obtain ⟨dd, hdd⟩ : ∃ dd, co l i = dd := ⟨_, rfl⟩
      rw [hdd] at hcell hd16 hov hg
      obtain ⟨x1, hx1⟩ : ∃ x, dd * n = x := ⟨_, rfl⟩
      have hx1b : x1 ≤ 65535 * n := by rw [← hx1]; exact Nat.mul_le_mul_right _ (by omega)
      rw [hx1] at hov hg
      obtain ⟨x, hx⟩ : ∃ x, cy + x1 = x := ⟨_, rfl⟩
      rw [hx] at hov hg
      have e1 : (dd : Int) * (n : Int) = (x1 : Int) := by rw [← hx1]; exact (Int.natCast_mul dd n).symm
      have e2 : (cy : Int) + (x1 : Int) = (x : Int) := by omega
      obtain ⟨y, hy⟩ : ∃ y, x % 65536 = y := ⟨_, rfl⟩
      obtain ⟨z, hz⟩ : ∃ z, x / 65536 = z := ⟨_, rfl⟩
      rw [hy, hz] at hov hg
      have e3 : (x : Int) % 65536 = (y : Int) := by omega
      have e4 : (x : Int) / 65536 = (z : Int) := by omega
      have hzn : z ≤ n := by omega
      have hxb : x < 18446744073709551616 := by omega
      have hx1b2 : x1 < 18446744073709551616 := by omega
      have hyb : y < 65536 := by omega
      cases gk with
      | zero => rw [List.length_cons] at hg; omega
      | succ g =>
        have HOV := Lib.hid (show (out ++ [y]) ++ tms n z (l.drop (i + 1)) = V from by rw [List.append_assoc]; exact hov)
        have HG := Lib.hid (show (tms n z (l.drop (i + 1))).length = g from by rw [List.length_cons] at hg; omega)
        clear hov hg hdd hx1 hx hy hz
        go_wp2_with (at_builtin; refine wpList_append_nums nt64 rfl (.tmp 32) (.tmp 35) rfl w.heap.size (.slice B5 i c5) out [y] rfl (HM.out.ext ((Ext.refl _).alloc _)) wr.heap.size 0 1 1 rfl rfl one_num (by rw [HLO.out]; simp; omega) (by simp; omega) ?_; intro v7 w7 hown7 hg7 hat7; have HX7 := Lib.hid ((HX.out.alloc (.cells #[.int .u64 (y : Int)] 22)).more hg7 (fun q hq => (HM.out.block q hq).1)); have HM7 := Lib.hid hown7; clear hown7 hg7 hat7)
        go_roundg g
        case measure => omega
        case rel => exact ⟨i + 1, z, out ++ [y], HOV.out, HG.out, hzn, by rw [List.length_append, HLO.out]; rfl, by go_num, rfl, HM7.out, HX7.out⟩
    · have d1 : decide ((i : Int) < (L : Int)) = false := decide_eq_false (by omega)
      rw [List.drop_eq_nil_of_le (by rw [HL.out]; omega)] at hov hg
      by_cases h0 : cy = 0
      · subst h0
        rw [tms_zero, List.append_nil] at hov
        subst hov
        go_wp2
        go_ret
        exact ⟨_, rfl, HM.out, HX.out⟩
      · have d2 : decide (0 < (cy : Int)) = true := decide_eq_true (by omega)
        have d3 : decide (0 < cy) = true := decide_eq_true (by omega)
        rw [tms_more n cy h0] at hov hg
        obtain ⟨y, hy⟩ : ∃ y, cy % 65536 = y := ⟨_, rfl⟩
        obtain ⟨z, hz⟩ : ∃ z, cy / 65536 = z := ⟨_, rfl⟩
        rw [hy, hz] at hov hg
        have e3 : (cy : Int) % 65536 = (y : Int) := by omega
        have e4 : (cy : Int) / 65536 = (z : Int) := by omega
        have hzn : z ≤ n := by omega
        have hyb : y < 65536 := by omega
        cases gk with
        | zero => rw [List.length_cons] at hg; omega
        | succ g =>
          have HOV := Lib.hid (show (out ++ [y]) ++ tms n z (l.drop (i + 1)) = V from by rw [List.append_assoc, List.drop_eq_nil_of_le (by rw [HL.out]; omega)]; exact hov)
          have HG := Lib.hid (show (tms n z (l.drop (i + 1))).length = g from by rw [List.drop_eq_nil_of_le (by rw [HL.out]; omega)]; rw [List.length_cons] at hg; omega)
          clear hov hg hy hz
          go_wp2_with (at_builtin; refine wpList_append_nums nt64 rfl (.tmp 32) (.tmp 35) rfl w.heap.size (.slice B5 i c5) out [y] rfl (HM.out.ext ((Ext.refl _).alloc _)) wr.heap.size 0 1 1 rfl rfl one_num (by rw [HLO.out]; simp; omega) (by simp; omega) ?_; intro v7 w7 hown7 hg7 hat7; have HX7 := Lib.hid ((HX.out.alloc (.cells #[.int .u64 (y : Int)] 22)).more hg7 (fun q hq => (HM.out.block q hq).1)); have HM7 := Lib.hid hown7; clear hown7 hg7 hat7)
          go_roundg g
          case measure => omega
          case rel => exact ⟨i + 1, z, out ++ [y], HOV.out, HG.out, hzn, by rw [List.length_append, HLO.out]; rfl, by go_num, rfl, HM7.out, HX7.out⟩
end Go.Proofs.YtjifionpblpfoaaDoor

/-
  What the document's own above of layer 10 does. Conditions: no more than three factors, below 2^40.
-/
namespace Go.Proofs.YtjifionpblpfoaaDoor
open Go.RowKit
open Pol (co Sm)

/-- No block of one is the other's. -/
def NSp (u v : Value) : Prop := ∀ q, u.ownBlock = some q → v.ownBlock ≠ some q
theorem NSp.left {u u' v : Value} {n : Nat} (h : NSp u v) (ha : u'.ownBlock = u.ownBlock ∨ u'.ownBlock = some n) (hv : ∀ q, v.ownBlock = some q → q < n) : NSp u' v := fun q hq => by
  rcases ha with e | e
  · exact h q (e.symm.trans hq)
  · intro hv'
    rw [e] at hq
    injection hq with hq
    have := hv q hv'
    omega
theorem NSp.symm {u v : Value} (h : NSp u v) : NSp v u := fun q hq hu => h q hu hq
theorem prd_snoc : ∀ (l p : List Nat) (x : Nat), prd p (l ++ [x]) = tms x 0 (prd p l)
  | [], _, _ => rfl
  | f :: l, p, x => prd_snoc l (tms f 0 p) x
theorem tms_ne (n c : Nat) : ∀ l : List Nat, l ≠ [] → tms n c l ≠ []
  | [], h => absurd rfl h
  | d :: l, _ => by rw [tms_cons]; simp
theorem prd_ne : ∀ (fs p : List Nat), p ≠ [] → prd p fs ≠ []
  | [], _, h => h
  | f :: fs, p, h => prd_ne fs (tms f 0 p) (tms_ne f 0 p h)
theorem take_snoc (l : List Nat) (i : Nat) (h : i < l.length) : l.take (i + 1) = l.take i ++ [co l i] := by
  rw [List.take_succ_eq_append_getElem h, show co l i = l[i] from by simp [co, List.getElem?_eq_getElem h]]
theorem zs_succ (n : Nat) : zs (n + 1) = zs n ++ [0] := by unfold zs; rw [List.replicate_succ']
theorem zs_len (n : Nat) : (zs n).length = n := by simp [zs]
/-- A slice of the call's own that has an element shows where it lies. -/
theorem NMine.filled {T : TypeId} {k : IntKind} {w : World} {base : Nat} {v : Value} {l : List Nat} (h : NMine T k w base v l) (hl : l ≠ []) : ∃ g c, v = .slice (some ⟨g, 0, none⟩) l.length c ∧ l.length ≤ c ∧ base ≤ g ∧ g < w.heap.size ∧ ∀ i, i < l.length → w.cell? ⟨g, 0 + i, none⟩ = some (.int k ((co l i : Nat) : Int)) := by
  have hb := h.block
  obtain ⟨B, c, rfl, hc, hr⟩ := h.slice
  obtain ⟨b, o, rfl, hcell⟩ := hr 0 (List.length_pos_iff.2 hl)
  rcases h.2 with ⟨e, _⟩ | ⟨g, cap, cur, e, hg, _⟩
  · cases e
  · injection e with e1 _ _
    injection e1 with e1
    injection e1 with e1 e2
    subst e1; subst e2
    refine ⟨b, c, rfl, hc, (hb b rfl).1, (hb b rfl).2, fun i hi => ?_⟩
    obtain ⟨b', o', e', hc'⟩ := hr i hi
    injection e' with e'
    injection e' with e1 e2
    subst e1; subst e2
    exact hc'

set_option maxHeartbeats 1600000 in
set_option maxRecDepth 100000 in
theorem ref10_above (fs : List Nat) (p m : Nat) (b o c : Nat) (w : World) (hr : ∀ i, i < fs.length → w.cell? ⟨b, o + i, none⟩ = some (.int .u64 ((co fs i : Nat) : Int))) (hf : ∀ f ∈ fs, f < 1099511627776) (hfl : fs.length ≤ 3) (hp : p < 65536) (hm : m ≤ 3) :
    Calls Tryd.prog 65 #[.slice (some ⟨b, o, none⟩) fs.length c, .int .u64 (p : Int), .int .i64 (m : Int)] w (Tells (.bool (decide (p * 65536 ^ (2 * m) < fs.foldl (· * ·) 1))) w) := by
  have hpk := prd_ok fs [1] (fun f h => by have := hf f h; omega) (Dg.cons (by decide) Dg.nil)
  have HPK := Lib.hid hpk
  have HFI := Lib.hid (fun i (hi : i < fs.length) => show co fs i < 1099511627776 from by
    unfold co; rw [List.getElem?_eq_getElem hi]; exact hf _ (List.getElem_mem hi))
  have HTK := Lib.hid (fun i => prd_ok (fs.take i) [1] (fun f h => by have := hf f (List.mem_of_mem_take h); omega) (Dg.cons (by decide) Dg.nil))
  have HTS := Lib.hid (fun i (hi : i < fs.length) => show prd [1] (fs.take (i + 1)) = tms (co fs i) 0 (prd [1] (fs.take i)) from by rw [take_snoc fs i hi, prd_snoc])
  have HR := Lib.hid hr
  obtain ⟨F, hF⟩ : ∃ F, fs.length = F := ⟨_, rfl⟩
  have HF := Lib.hid hF
  have HFT := Lib.hid (show fs.take F = fs from by rw [← hF, List.take_length])
  rw [hF] at HFI HTS HR hfl ⊢
  obtain ⟨ans, hans⟩ : ∃ ans, decide (p * 65536 ^ (2 * m) < fs.foldl (· * ·) 1) = ans := ⟨_, rfl⟩
  have HANS := Lib.hid hans
  rw [hans]
  have HCN := Lib.hid (fun W => nmine_lit (k := .u64) (T := 22) W [1] (by decide))
  have HCP := Lib.hid (fun W => nmine_lit (k := .u64) (T := 22) W [p] (by simp))
  have HCZ := Lib.hid (fun W => nmine_lit (k := .u64) (T := 22) W [0] (by decide))
  clear hr hf hpk hF hans
  go_enter Tryd.func65, Tryd.ntmps65
  go_wp2
  go_loopg [7, 15] F (fun g s7 s15 wx => ∃ i : Nat, i + g = F ∧ s15 = .int .i64 (i : Int) ∧ NMine 22 .u64 wx w.heap.size s7 (prd [1] (fs.take i)) ∧ Ext w wx)
  case atStart => exact ⟨0, by omega, rfl, (HCN.out w), (Ext.refl w).alloc _⟩
  case round =>
    obtain ⟨i, hig, rfl, hmn, hx⟩ := hrel
    have HM := Lib.hid hmn
    have HX := Lib.hid hx
    cases gk with
    | zero =>
      obtain rfl : i = F := by omega
      rw [HFT.out] at HM
      obtain ⟨A, hA⟩ : ∃ A, prd [1] fs = A := ⟨_, rfl⟩
      rw [hA] at HM HPK
      have hAl : A.length ≤ 10 := by have h := HPK.out.2.2; rw [HF.out] at h; simp at h; omega
      have hAne : A ≠ [] := by rw [← hA]; exact prd_ne fs [1] (by simp)
      obtain ⟨g7, c7, rfl, hc7, hg7, hg7s, _⟩ := HM.out.filled hAne
      obtain ⟨La, hLa⟩ : ∃ La, A.length = La := ⟨_, rfl⟩
      have HLA := Lib.hid hLa
      rw [hLa] at HM hc7 hAl ⊢
      have e2m : 2 * (m : Int) = ((2 * m : Nat) : Int) := by omega
      obtain ⟨M, hM⟩ : ∃ M, 2 * m = M := ⟨_, rfl⟩
      have e2 : 2 * (m : Int) = (M : Int) := by omega
      have HMM := Lib.hid hM
      have hM6 : M ≤ 6 := by omega
      have HWS := Lib.hid hx.size
      have hAnz := hAne
      clear hig hmn hx hA hLa e2m hM hAne
      go_wp2
      obtain ⟨w1, hw1⟩ : ∃ q, q = wr := ⟨_, rfl⟩
      subst hw1
      go_loopg [9, 10] M (fun g s9 s10 wx => ∃ j : Nat, j + g = M ∧ s10 = .int .i64 (j : Int) ∧ NMine 22 .u64 wx w1.heap.size s9 (zs j ++ [p]) ∧ Ext w1 wx)
      case atStart => exact ⟨0, by omega, rfl, (HCP.out w1), (Ext.refl w1).alloc _⟩
      case round =>
        obtain ⟨j, hjg, rfl, hmn, hx⟩ := hrel
        have HM2 := Lib.hid hmn
        have HX2 := Lib.hid hx
        obtain ⟨g9, c9, rfl, hc9, hg9, hg9s, hcell9⟩ := hmn.filled (by simp)
        have hl9 : (zs j ++ [p]).length = j + 1 := by rw [List.length_append, zs_len]; rfl
        obtain ⟨L9, hL9⟩ : ∃ L9, (zs j ++ [p]).length = L9 := ⟨_, rfl⟩
        have HL9 := Lib.hid hL9
        have HC9 := Lib.hid hcell9
        have hs1 := hx.size
        have hws := HWS.out
        rw [hL9] at hc9 hl9 HM2 HC9 ⊢
        have HL9E := Lib.hid hl9
        have hL98 : L9 ≤ 7 := by omega
        clear hmn hx hcell9 hL9 hl9
        cases gk with
        | zero =>
          obtain rfl : j = M := by omega
          clear hjg
          have d1 : decide ((j : Int) < (j : Int)) = false := decide_eq_false (by omega)
          have HSP := Lib.hid (show NSp (.slice (some ⟨g7, 0, none⟩) La c7) (.slice (some ⟨g9, 0, none⟩) L9 c9) from fun q hq => by
            intro e
            have e1 : g7 = q := Option.some.inj hq
            have e2 : g9 = q := Option.some.inj e
            omega)
          have HM7 := Lib.hid (HM.out.ext HX2.out)
          have HX7 := Lib.hid (HX.out.trans HX2.out)
          go_wp2
          go_loopg [7] (L9 - La) (fun g s7 wx => ∃ x : Nat, L9 - (La + x) = g ∧ NMine 22 .u64 wx w.heap.size s7 (A ++ zs x) ∧ NMine 22 .u64 wx w1.heap.size (.slice (some ⟨g9, 0, none⟩) L9 c9) (zs j ++ [p]) ∧ NSp s7 (.slice (some ⟨g9, 0, none⟩) L9 c9) ∧ x ≤ 10 ∧ Ext w wx)
          case atStart => exact ⟨0, by omega, by rw [show zs 0 = [] from rfl, List.append_nil]; exact HM7.out, HM2.out, HSP.out, by omega, HX7.out⟩
          case round =>
            obtain ⟨x, hxg, hmp, hmw, hsp, hx10, hx⟩ := hrel
            have HMP := Lib.hid hmp
            have HMW := Lib.hid hmw
            have HSPX := Lib.hid hsp
            have HXX := Lib.hid hx
            have hwb := (hmw.block g9 rfl).2
            have hsz := hx.size
            have hAx : A ++ zs x ≠ [] := by
              intro e
              have := congrArg List.length e
              rw [List.length_append, HLA.out] at this
              have hA0 : 0 < La := by
                rcases Nat.eq_zero_or_pos La with h | h
                · exfalso
                  have hA0 : A = [] := List.eq_nil_of_length_eq_zero (HLA.out.trans h)
                  exact hAnz hA0
                · exact h
              simp at this
              omega
            obtain ⟨ga, ca, rfl, hca, hga, hgas, hcella⟩ := hmp.filled hAx
            have hlx : (A ++ zs x).length = La + x := by rw [List.length_append, zs_len, HLA.out]
            obtain ⟨Lx, hLx⟩ : ∃ Lx, (A ++ zs x).length = Lx := ⟨_, rfl⟩
            have HLX := Lib.hid hLx
            rw [hLx] at hlx hca HMP HSPX ⊢
            have HLXE := Lib.hid hlx
            have hLx20 : Lx ≤ 20 := by omega
            clear hmp hmw hsp hx hLx hAx hlx
            by_cases hlt : Lx < L9
            · have t1 : decide ((Lx : Int) < (L9 : Int)) = true := decide_eq_true (by omega)
              go_wp2_with (at_builtin; refine wpList_append_nums nt64 rfl (.tmp 41) (.tmp 42) rfl w.heap.size (.slice (some ⟨ga, 0, none⟩) Lx ca) (A ++ zs x) [0] rfl (HMP.out.ext ((Ext.refl wr).alloc _)) wr.heap.size 0 1 1 rfl rfl one_num (by rw [HLX.out]; simp; omega) (by simp; omega) ?_; intro v7 w7 hown7 hgg7 hat7; rw [List.append_assoc, ← zs_succ] at hown7; have HX8 := Lib.hid ((HXX.out.alloc (.cells #[.int .u64 0] 22)).more hgg7 (fun q hq => (HMP.out.block q hq).1)); have HM8 := Lib.hid hown7; have HW8 := Lib.hid ((HMW.out.ext ((Ext.refl wr).alloc (.cells #[.int .u64 0] 22))).keep hgg7 (fun q hq e => HSPX.out q e.symm hq)); have HS8 := Lib.hid (HSPX.out.left hat7 (fun q hq => by have h := (HMW.out.block q hq).2; simp; omega)); clear hown7 hgg7 hat7)
              go_roundg (L9 - (La + (x + 1)))
              case measure => have := HLXE.out; omega
              case rel => exact ⟨x + 1, rfl, HM8.out, HW8.out, HS8.out, by have := HLXE.out; omega, HX8.out⟩
            · have t1 : decide ((Lx : Int) < (L9 : Int)) = false := decide_eq_false (by omega)
              clear hxg
              obtain ⟨PL, hPL⟩ : ∃ PL, A ++ zs x = PL := ⟨_, rfl⟩
              have HPL := Lib.hid (show Dg PL ∧ dv PL = fs.foldl (· * ·) 1 from by
                rw [← hPL]
                refine ⟨HPK.out.2.1.app (dg_zs x), ?_⟩
                rw [dv_pad, HPK.out.1]
                simp [dv])
              obtain ⟨WL, hWL⟩ : ∃ WL, zs j ++ [p] = WL := ⟨_, rfl⟩
              have HWL := Lib.hid (show Dg WL ∧ dv WL = p * 65536 ^ (2 * m) from by
                rw [← hWL]
                exact ⟨(dg_zs j).app (Dg.cons hp Dg.nil), by rw [dv_lead, HMM.out]⟩)
              rw [hPL] at HMP HLX
              rw [hWL] at HMW HL9
              have hw1s : w.heap.size ≤ w1.heap.size := hws
              clear hPL hWL hca hga
              go_wp2
              go_loopg [9] (Lx - L9) (fun g s9 wx => ∃ y : Nat, Lx - (L9 + y) = g ∧ NMine 22 .u64 wx w1.heap.size s9 (WL ++ zs y) ∧ NMine 22 .u64 wx w.heap.size (.slice (some ⟨ga, 0, none⟩) Lx ca) PL ∧ NSp s9 (.slice (some ⟨ga, 0, none⟩) Lx ca) ∧ L9 + y ≤ Lx ∧ Ext w wx)
              case atStart => exact ⟨0, by omega, by rw [show zs 0 = [] from rfl, List.append_nil]; exact HMW.out, HMP.out, HSPX.out.symm, by omega, HXX.out⟩
              case round =>
                obtain ⟨y, hyg, hmw, hmp, hsp, hyl, hx⟩ := hrel
                have HMP2 := Lib.hid hmp
                have HMW2 := Lib.hid hmw
                have HSP2 := Lib.hid hsp
                have HX2' := Lib.hid hx
                have hsz2 := hx.size
                have hgab := (hmp.block ga rfl).2
                have hlw : (WL ++ zs y).length = L9 + y := by rw [List.length_append, zs_len, HL9.out]
                have hWne : WL ++ zs y ≠ [] := by
                  intro e
                  have h0 := congrArg List.length e
                  rw [hlw] at h0
                  have := HL9E.out
                  simp at h0
                  omega
                obtain ⟨gw, cw, rfl, hcw, hgw, hgws, hcellw⟩ := hmw.filled hWne
                have HCW := Lib.hid hcellw
                obtain ⟨Lw, hLw⟩ : ∃ Lw, (WL ++ zs y).length = Lw := ⟨_, rfl⟩
                have HLW := Lib.hid hLw
                have HLWE := Lib.hid (hLw.symm.trans hlw)
                rw [hLw] at hcw HMW2 HSP2 HCW ⊢
                have hLw20 : Lw ≤ Lx := by omega
                clear hmw hmp hsp hx hlw hWne hcellw hLw
                by_cases hlt2 : Lw < Lx
                · have t2 : decide ((Lw : Int) < (Lx : Int)) = true := decide_eq_true (by omega)
                  go_wp2_with (at_builtin; refine wpList_append_nums nt64 rfl (.tmp 49) (.tmp 50) rfl w1.heap.size (.slice (some ⟨gw, 0, none⟩) Lw cw) (WL ++ zs y) [0] rfl (HMW2.out.ext ((Ext.refl wr).alloc _)) wr.heap.size 0 1 1 rfl rfl one_num (by rw [HLW.out]; simp; omega) (by simp; omega) ?_; intro v7 w7 hown7 hgg7 hat7; rw [List.append_assoc, ← zs_succ] at hown7; have HX8 := Lib.hid ((HX2'.out.alloc (.cells #[.int .u64 0] 22)).more hgg7 (fun q hq => Nat.le_trans hw1s (HMW2.out.block q hq).1)); have HM8 := Lib.hid hown7; have HW8 := Lib.hid ((HMP2.out.ext ((Ext.refl wr).alloc (.cells #[.int .u64 0] 22))).keep hgg7 (fun q hq e => HSP2.out q e.symm hq)); have HS8 := Lib.hid (HSP2.out.left hat7 (fun q hq => by have h := (HMP2.out.block q hq).2; simp; omega)); clear hown7 hgg7 hat7)
                  go_roundg (Lx - (L9 + (y + 1)))
                  case measure => have := HLWE.out; omega
                  case rel => exact ⟨y + 1, rfl, HM8.out, HW8.out, HS8.out, by have := HLWE.out; omega, HX8.out⟩
                · have t2 : decide ((Lw : Int) < (Lx : Int)) = false := decide_eq_false (by omega)
                  obtain rfl : Lw = Lx := by omega
                  clear hyg hyl
                  obtain ⟨Q, hQ⟩ : ∃ Q, WL ++ zs y = Q := ⟨_, rfl⟩
                  have HQ := Lib.hid (show Dg Q ∧ dv Q = p * 65536 ^ (2 * m) from by
                    rw [← hQ, dv_pad]
                    exact ⟨HWL.out.1.app (dg_zs y), HWL.out.2⟩)
                  rw [hQ] at HLW HCW
                  obtain ⟨_, _, eP, _, _, _, hcellp⟩ := HMP2.out.filled (by
                    intro e
                    have h := HLX.out
                    rw [e] at h
                    have := HL9E.out
                    have := HLWE.out
                    simp at h
                    omega)
                  injection eP with eP1 eP2 eP3
                  clear eP2 eP3
                  injection eP1 with eP1
                  injection eP1 with eP1 eP2
                  clear eP2
                  subst eP1
                  rw [HLX.out] at hcellp
                  have HCP := Lib.hid hcellp
                  have HEQ := Lib.hid (show PL.length = Q.length from by rw [HLX.out, HLW.out])
                  clear hQ hcellp
                  go_wp2
                  obtain ⟨w4, hw4⟩ : ∃ q, q = wr := ⟨_, rfl⟩
                  subst hw4
                  go_loopg [11] Lw (fun g s11 wx => ∃ q : Nat, g ≤ Lw ∧ s11 = .int .i64 ((g : Int) - 1) ∧ (∀ i, g ≤ i → i < Lw → co PL i = co Q i) ∧ wx = w4.drewN q)
                  case atStart => exact ⟨0, Nat.le_refl _, rfl, fun i h1 h2 => by omega, rfl⟩
                  case round =>
                    obtain ⟨q, hgl, rfl, hsame, rfl⟩ := hrel
                    have HSA := Lib.hid hsame
                    clear hsame
                    cases gk with
                    | zero =>
                      have hA : false = ans := by
                        rw [← HANS.out]
                        symm
                        apply decide_eq_false
                        rw [← HQ.out.2, ← HPL.out.2, list_same PL Q HEQ.out (fun i hi => HSA.out i (Nat.zero_le _) (by rw [← HLX.out]; exact hi))]
                        omega
                      have HXF := Lib.hid (HX2'.out.drewN q)
                      subst hA
                      go_wp2
                      go_ret
                      exact ⟨rfl, HXF.out⟩
                    | succ g =>
                      have hgI : (g : Int) < (Lw : Int) := by omega
                      have eg : ((g + 1 : Nat) : Int) - 1 = (g : Int) := by omega
                      rw [eg]
                      have hc1 := HCP.out g (by omega)
                      have hc2 := HCW.out g (by omega)
                      rw [Nat.zero_add] at hc1 hc2
                      have d1 : decide ((0 : Int) ≤ (g : Int)) = true := decide_eq_true (by omega)
                      have HCMP := Lib.hid (fun h => dv_cmp PL Q HPL.out.1 HQ.out.1 HEQ.out g (by rw [HLX.out]; omega) (fun i h1 h2 => HSA.out i (by omega) (by rw [← HLX.out]; exact h2)) h)
                      obtain ⟨a1, ha1⟩ : ∃ a, co PL g = a := ⟨_, rfl⟩
                      obtain ⟨a2, ha2⟩ : ∃ a, co Q g = a := ⟨_, rfl⟩
                      have HA1 := Lib.hid ha1
                      have HA2 := Lib.hid ha2
                      rw [ha1] at hc1
                      rw [ha2] at hc2
                      rw [ha1, ha2] at HCMP
                      clear ha1 ha2 eg
                      by_cases haa : a1 = a2
                      · subst haa
                        have d2 : ((a1 : Int) != (a1 : Int)) = false := by simp
                        go_wp2
                        go_quiet (fail)
                        go_wp2
                        go_roundg g
                        case measure => omega
                        case rel => exact ⟨_, by omega, by go_num, fun i h1 h2 => (by
                          by_cases e : i = g
                          · rw [e, HA1.out, HA2.out]
                          · exact HSA.out i (by omega) h2), rfl⟩
                      · have d2 : ((a1 : Int) != (a2 : Int)) = true := by simp; omega
                        have d3 : decide (a1 = a2) = false := decide_eq_false haa
                        have d4 : ((a1 : Int) == (a2 : Int)) = false := by simp; omega
                        have hA : decide ((a2 : Int) < (a1 : Int)) = ans := by
                          rw [← HANS.out, ← HQ.out.2, ← HPL.out.2]
                          rw [decide_eq_decide]
                          rw [HCMP.out haa]
                          omega
                        by_cases hlt3 : (a2 : Int) < (a1 : Int)
                        · have d5 : decide ((a2 : Int) < (a1 : Int)) = true := decide_eq_true hlt3
                          have d6 : decide (a2 < a1) = true := decide_eq_true (by omega)
                          rw [d5] at hA
                          subst hA
                          go_wp2
                          go_quiet (fail)
                          go_wp2
                          go_quiet (fail)
                          go_wp2
                          go_ret
                          exact ⟨rfl, (((HX2'.out.drewN _).drewN _).drewN _)⟩
                        · have d5 : decide ((a2 : Int) < (a1 : Int)) = false := decide_eq_false hlt3
                          have d6 : decide (a2 < a1) = false := decide_eq_false (by omega)
                          rw [d5] at hA
                          subst hA
                          go_wp2
                          go_quiet (fail)
                          go_wp2
                          go_quiet (fail)
                          go_wp2
                          go_ret
                          exact ⟨rfl, (((HX2'.out.drewN _).drewN _).drewN _)⟩
        | succ g =>
          have d1 : decide ((j : Int) < (M : Int)) = true := decide_eq_true (by omega)
          have hjI : (j : Int) < (M : Int) := by omega
          have HZ := Lib.hid (show [0] ++ (zs j ++ [p]) = zs (j + 1) ++ [p] from rfl)
          go_wp2_with (at_builtin; refine wpList_append_nums nt64 rfl (.tmp 33) (.tmp 34) rfl wr.heap.size (.slice (some ⟨wr.heap.size, 0, none⟩) 1 1) [0] (zs j ++ [p]) rfl (HCZ.out wr) g9 0 L9 c9 rfl HL9.out (fun q hq => (((Ext.refl wr).alloc _).below.cell (p := ⟨g9, 0 + q, none⟩) (by show g9 < _; exact hg9s)).trans (HC9.out q (by rw [← HL9.out]; exact hq))) (by rw [HL9.out]; simp; omega) (by simp) ?_; intro v7 w7 hown7 hgg7 hat7; rw [HZ.out] at hown7; have HX7 := Lib.hid (HX2.out.trans (((Ext.refl wr).alloc (.cells #[.int .u64 0] 22)).more hgg7 (fun q hq => (by simp [Value.ownBlock] at hq; omega)))); have HM7 := Lib.hid (hown7.down hs1); clear hown7 hgg7 hat7)
          go_roundg g
          case measure => omega
          case rel => exact ⟨j + 1, by omega, by go_num, HM7.out, HX7.out⟩
    | succ g =>
      have hi : i < F := by omega
      have hiI : (i : Int) < (F : Int) := by omega
      have hcell := (hx.below.cell (p := ⟨b, o + i, none⟩) (block_lt_of_cell (HR.out i hi))).trans (HR.out i hi)
      have hne : prd [1] (fs.take i) ≠ [] := prd_ne _ [1] (by simp)
      obtain ⟨g7, c7, rfl, hc7, hg7, hg7s, hcell7⟩ := hmn.filled hne
      have hk := HTK.out i
      have hlen : (prd [1] (fs.take i)).length ≤ 10 := by
        have h := hk.2.2
        rw [List.length_take, HF.out] at h
        simp at h
        omega
      have HTI := Lib.hid (HTS.out i hi)
      have HTM := Lib.hid (ref10_times (prd [1] (fs.take i)) (co fs i) g7 0 c7 wr hcell7 (by omega) hk.2.1 (HFI.out i hi))
      have hfi := HFI.out i hi
      obtain ⟨f, hf⟩ : ∃ f, co fs i = f := ⟨_, rfl⟩
      rw [hf] at hcell HTI HTM hfi
      obtain ⟨Li, hLi⟩ : ∃ Li, (prd [1] (fs.take i)).length = Li := ⟨_, rfl⟩
      rw [hLi] at HTM ⊢
      clear hmn hx hcell7 hk hlen hf hLi hc7
      go_wp2_with fail
      refine HTM.out.mono ?_
      rintro e w2 ⟨v2, rfl, hm2, hx2⟩
      rw [← HTI.out] at hm2
      have HX2 := Lib.hid (HX.out.trans hx2)
      have HM2 := Lib.hid (hm2.down HX.out.size)
      clear hm2 hx2
      go_wp2
      go_roundg g
      case measure => omega
      case rel => exact ⟨i + 1, by omega, by go_num, HM2.out, HX2.out⟩
end Go.Proofs.YtjifionpblpfoaaDoor

/-
  What the walk of layer 10's digest reckons: the constants one by one, the padding, the length's bytes. Conditions: none; no function is named here.
-/
namespace Go.Proofs.YtjifionpblpfoaaDoor
open Go.RowKit
open Pol (co Sm)

theorem PR_len : PR.length = 64 := by decide
theorem PR_lt : ∀ i, co PR i < 65536 := fun i => by
  by_cases h : i < 64
  · have : ∀ i, i < 64 → co PR i < 65536 := by decide +kernel
    exact this i h
  · rw [Pol.co_out PR i (by rw [PR_len]; omega)]; omega
theorem co_map (f : Nat → Nat) (l : List Nat) (i : Nat) (h : i < l.length) : co (l.map f) i = f (co l i) := by
  unfold co
  rw [List.getElem?_map, List.getElem?_eq_getElem h]
  rfl
theorem map_snoc (f : Nat → Nat) (l : List Nat) (i : Nat) (h : i < l.length) : (l.map f).take (i + 1) = (l.map f).take i ++ [f (co l i)] := by
  rw [take_snoc _ i (by rw [List.length_map]; exact h), co_map f l i h]
theorem co_take (l : List Nat) (m i : Nat) (h : i < m) : co (l.take m) i = co l i := by
  unfold co
  rw [List.getElem?_take, if_pos h]
/-- The constants, one more. -/
theorem HH_snoc (i : Nat) (h : i < 8) : HH.take (i + 1) = HH.take i ++ [rtx 2 (co PR i) 37 0 % 4294967296] := by
  have e := map_snoc (fun p => rtx 2 p 37 0 % 4294967296) (PR.take 8) i (by rw [List.length_take, PR_len]; omega)
  rw [co_take PR 8 i h] at e
  exact e
theorem KK_snoc (i : Nat) (h : i < 64) : KK.take (i + 1) = KK.take i ++ [rtx 3 (co PR i) 37 0 % 4294967296] :=
  map_snoc (fun p => rtx 3 p 37 0 % 4294967296) PR i (by rw [PR_len]; exact h)
theorem HH_len : HH.length = 8 := by unfold HH; rw [List.length_map, List.length_take, PR_len]; rfl
theorem KK_len : KK.length = 64 := by unfold KK; rw [List.length_map, PR_len]

theorem padz_stop (n j : Nat) (h : j ≤ padz n) : (n + 1 + j) % 64 = 56 ↔ j = padz n := by
  unfold padz at h ⊢
  omega

theorem len8_at (n j v : Nat) (h : 8 * j + v = 56) : (n : Int) * 8 / 2 ^ min (IntKind.u64.wrap (v : Int)).toNat 64 % 256 = ((len8 n j : Nat) : Int) := by
  have e : v = 8 * (7 - j) := by omega
  have ew : (IntKind.u64.wrap (v : Int)).toNat = v := by rw [IntKind.wrap_u64]; omega
  have em : min v 64 = v := by omega
  rw [ew, em, e]
  unfold len8
  have ep : (2 : Nat) ^ (8 * (7 - j)) = 256 ^ (7 - j) := by rw [Nat.pow_mul]
  have ep' : (2 : Int) ^ (8 * (7 - j)) = ((256 ^ (7 - j) : Nat) : Int) := by rw [← ep]; simp
  rw [ep', Int.mul_comm]
  simp
end Go.Proofs.YtjifionpblpfoaaDoor

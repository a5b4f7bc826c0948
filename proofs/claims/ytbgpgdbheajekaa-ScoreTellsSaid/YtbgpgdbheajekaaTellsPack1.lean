/-
  Part 1 of the texts that the seat's proofs stand on; each part of it begins with its own sentence and conditions. Conditions: those that each theorem names.
-/
import Derived.WalkKit
import Derived.Lib.Hide
import Derived.Deep.QuietTactic
import Derived.BigQuiet
import Derived.Deep.WholeRow
import Derived.Deep.MidRow
import Derived.Deep.LoopGhost
import Derived.Laws.BitsAllLaws
import Derived.OpenShut
import Derived.Test.YtbgpgdbheajekaaProg
import Ieee.Arith
import Derived.Laws.FloatArith
import Derived.Laws.Cover2

/-
  Small laws on worlds and on operations over whole arrays, of no program in particular: what is new, what stays, a load and a store of a whole array, a struct that is built of two arrays. Conditions: none.
-/
namespace Go.Proofs.Ytbgpgdbheajekaa
open Go.RowKit

theorem ret_int {k : IntKind} {a b : Int} (h : a = b) : Ending.returned (.int k a) = .returned (.int k b) := by rw [h]

theorem ret_two {k k' : IntKind} {a b c : Int} (h : a = b) : Ending.returned (.tuple #[.int k a, .int k' c]) = .returned (.tuple #[.int k b, .int k' c]) := by rw [h]

/-- A call that hands back v and changes nothing but how often the tape was asked. -/
def Hands (v : Value) (w : World) (e : Ending) (w' : World) : Prop := e = .returned v ∧ ∃ n, w' = w.drewN n

theorem nat_u8 {n : Int} (h : (Lit.int .u8 n).wf = true) : ∃ x : Nat, n = (x : Int) ∧ x < 256 := by
  have := bounds_u8 h
  exact ⟨n.toNat, by omega, by omega⟩
theorem nat_u32 {n : Int} (h : (Lit.int .u32 n).wf = true) : ∃ x : Nat, n = (x : Int) ∧ x < 4294967296 := by
  have := bounds_u32 h
  exact ⟨n.toNat, by omega, by omega⟩
theorem nat_u64 {n : Int} (h : (Lit.int .u64 n).wf = true) : ∃ x : Nat, n = (x : Int) ∧ x < 18446744073709551616 := by
  have := bounds_u64 h
  exact ⟨n.toNat, by omega, by omega⟩

/-- New blocks alone: nothing that was there has changed. -/
structure Ext (w w' : World) : Prop where
  below : Below w.heap.size w w'
theorem Ext.refl (w : World) : Ext w w := ⟨Below.refl _ _⟩
theorem Ext.size {w w' : World} (h : Ext w w') : w.heap.size ≤ w'.heap.size := h.below.size
theorem Ext.trans {a b c : World} (h : Ext a b) (k : Ext b c) : Ext a c := ⟨h.below.trans (k.below.mono h.size)⟩
theorem Ext.alloc {a w : World} (h : Ext a w) (o : Obj) : Ext a (w.alloc o) := ⟨h.below.alloc h.size o⟩
theorem Ext.drewN {a w : World} (h : Ext a w) (n : Nat) : Ext a (w.drewN n) := ⟨⟨h.below.os, h.below.tape, h.below.output, h.below.size, h.below.block⟩⟩
theorem Ext.drew {a w : World} (h : Ext a w) : Ext a w.drew := h.drewN 1
theorem Ext.setCell {a w : World} (h : Ext a w) {p : Addr} (hp : a.heap.size ≤ p.block) (v : Value) : Ext a (w.setCell p v) := ⟨h.below.setCell hp v⟩
theorem Ext.setRow {a w : World} (h : Ext a w) {g : Nat} (hg : a.heap.size ≤ g) (c : Array Value) : Ext a (w.setRow g c) :=
  ⟨h.below.trans ⟨rfl, rfl, rfl, by simp, fun k hk => setRow_other w g k c (by omega)⟩⟩
/-- Behind a law that ends in 'grownBy': what was written is new. -/
theorem Ext.more {a w w' : World} {row : Option Nat} (h : Ext a w) (hg : w.grownBy w' row) (hr : ∀ k, row = some k → a.heap.size ≤ k) : Ext a w' := ⟨h.below.grown hg h.size hr⟩

/-- The law answers true; nothing that was there has changed. -/
def Holds (w : World) (e : Ending) (w' : World) : Prop := e = .returned (.bool true) ∧ Ext w w'

theorem quiet_same {P : Program} {f : FuncId} {args : Array Value} {w : World} {n : Nat} {v : Value}
    (h : Calls P f args (w.drewN n) fun e w' => e = .returned v ∧ w.drewN n = w') : Calls P f args (w.drewN n) fun e w'' => e = .returned v ∧ ∃ m, w'' = w.drewN m :=
  h.mono fun _ _ ⟨he, hm⟩ => ⟨he, n, hm.symm⟩
theorem quiet_hands {P : Program} {f : FuncId} {args : Array Value} {w : World} {n : Nat} {v : Value}
    (h : Calls P f args (w.drewN n) (Hands v (w.drewN n))) : Calls P f args (w.drewN n) fun e w'' => e = .returned v ∧ ∃ m, w'' = w.drewN m :=
  h.mono fun _ _ ⟨he, m, hm⟩ => ⟨he, n + m, by rw [hm, World.drewN_drewN]⟩

section
variable {P : Program} {ops : Array Oper} {C : World → Prop} {Q : Act → Prop}
theorem wpQuiet_load {o : Oper} {rest : List Oper} {a : Act} (hgd : o.guard = none) (ty : TypeId) (x : Operand) (ho : o.op = .load ty x) (v : Value)
    (hrun : ∀ w, C w → (Instr.loadAt ty (a.eval x)).run P w = .ok v w) (h : wpQuiet P ops C Q rest (a.put o.dst v)) : wpQuiet P ops C Q (o :: rest) a := by
  unfold wpQuiet
  rw [if_pos (by simp [Region.wanted, hgd])]
  refine ⟨v, fun w hw => ?_, h⟩
  unfold Oper.quietAt
  simp only [execOp, ho, Sem.run_bind, hrun w hw, Result.andThen, Sem.run_pure]
  exact ⟨rfl, rfl⟩
theorem wpQuiet_store {o : Oper} {rest : List Oper} {a : Act} (hgd : o.guard = none) (ty : TypeId) (x y : Operand) (ho : o.op = .store ty x y)
    (hrun : ∀ w, C w → (Instr.storeAt ty (a.eval x) (a.eval y)).run P w = .ok () w) (h : wpQuiet P ops C Q rest (a.put o.dst undef)) : wpQuiet P ops C Q (o :: rest) a := by
  unfold wpQuiet
  rw [if_pos (by simp [Region.wanted, hgd])]
  refine ⟨undef, fun w hw => ?_, h⟩
  unfold Oper.quietAt
  simp only [execOp, ho, Sem.run_bind, hrun w hw, Result.andThen, Sem.run_pure]
  exact ⟨rfl, rfl⟩
theorem setRow_same (w : World) (b : Nat) (c : Array Value) (t : TypeId) (hg : w.heap[b]? = some (.cells c t (0, 0))) : w.setRow b c = w := by
  cases w with
  | _ =>
    simp only [World.setRow] at hg ⊢
    congr 1
    apply Array.ext_getElem?
    intro i
    rw [Array.getElem?_modify]
    split
    · rename_i e; subst e; rw [hg]; rfl
    · rfl
theorem run_store_back (w : World) (b : Nat) (t : TypeId) (c : Array Value) (hg : w.heap[b]? = some (.cells c t (0, 0))) (hi : (P.info? t).map (·.size) = some c.size) (h1 : c.all (·.oneCell') = true) :
    (Instr.storeAt t (.pointer (some ⟨b, 0, none⟩)) (.agg c)).run P w = .ok () w := by
  simp only [Instr.storeAt, Instr.sureAddr, Sem.run_bind, Sem.run_pure, Result.andThen]
  rw [run_storeVar_row w b t t c c hg hi rfl h1, setRow_same w b c t hg]
theorem run_load_all (w : World) (b : Nat) (t : TypeId) (c : Array Value) (n : Nat) (e : TypeId) (hu : P.underlying t = some (.array n e)) (hg : w.heap[b]? = some (.cells c t (0, 0))) (hi : (P.info? t).map (·.size) = some c.size) :
    (Instr.loadAt t (.pointer (some ⟨b, 0, none⟩))).run P w = .ok (.agg c) w := by
  simp only [Instr.loadAt, Instr.sureAddr, Sem.run_bind, Sem.run_pure, Result.andThen]
  exact run_loadVar_row w b t t c (0, 0) _ hg hu rfl hi
theorem results_cell_cell {fn : Func} {p u : Tmp} {ty tz : TypeId} (h : fn.results = #[.cell p ty, .cell u tz]) (tmps : Array Value) (P : Program) (w : World) :
    (results fn tmps).run P w =
      ((asAddr (tmps.getD p undef)).run P w).andThen fun a w₁ => ((loadVar ty a).run P w₁).andThen fun v w₂ =>
        ((asAddr (tmps.getD u undef)).run P w₂).andThen fun b w₃ => ((loadVar tz b).run P w₃).andThen fun z w₄ => .ok (.tuple #[v, z]) w₄ := by
  simp only [results, h]
  simp [Sem.run_bind, Result.andThen]
end

/-! ### A struct that is built of two arrays -/
theorem fold_at (off : Nat) : ∀ (l : List Value) (k : Nat) (base : Array Value) (i : Nat),
    ((l.zipIdx k).foldl (fun cs x => cs.setIfInBounds (off + x.2) x.1) base)[i]? = if off + k ≤ i ∧ i < off + k + l.length ∧ i < base.size then l[i - (off + k)]? else base[i]?
  | [], k, base, i => by
    rw [if_neg (by simp; omega)]; rfl
  | c :: l, k, base, i => by
    simp only [List.zipIdx_cons, List.foldl_cons]
    rw [fold_at off l (k + 1) (base.setIfInBounds (off + k) c) i]
    simp only [Array.size_setIfInBounds, List.length_cons, Array.getElem?_setIfInBounds]
    by_cases h1 : off + k = i
    · subst h1
      rw [if_neg (by omega), if_pos rfl]
      by_cases h2 : off + k < base.size
      · rw [if_pos h2, if_pos ⟨Nat.le_refl _, by omega, h2⟩]; simp
      · rw [if_neg h2, if_neg (by omega)]
        rw [Array.getElem?_eq_none (by omega)]
    · rw [if_neg h1]
      by_cases h2 : off + (k + 1) ≤ i ∧ i < off + (k + 1) + l.length ∧ i < base.size
      · rw [if_pos h2, if_pos (by omega)]
        rw [show i - (off + k) = (i - (off + (k + 1))) + 1 from by omega, List.getElem?_cons_succ]
      · rw [if_neg h2, if_neg (by omega)]

theorem fold_size (off : Nat) : ∀ (l : List (Value × Nat)) (base : Array Value), (l.foldl (fun cs x => cs.setIfInBounds (off + x.2) x.1) base).size = base.size
  | [], _ => rfl
  | c :: l, base => by rw [List.foldl_cons, fold_size off l]; simp

def putIn (off : Nat) (p base : Array Value) : Array Value := p.zipIdx.foldl (fun cs x => cs.setIfInBounds (off + x.2) x.1) base
theorem putIn_at (off : Nat) (p base : Array Value) (i : Nat) : (putIn off p base)[i]? = if off ≤ i ∧ i < off + p.size ∧ i < base.size then p[i - off]? else base[i]? := by
  have h := fold_at off p.toList 0 base i
  unfold putIn
  rw [← Array.foldl_toList, Array.toList_zipIdx, h]
  simp
theorem putIn_size (off : Nat) (p base : Array Value) : (putIn off p base).size = base.size := by
  unfold putIn
  rw [← Array.foldl_toList, fold_size]
theorem wpList_store_all {P : Program} {ops : Array Oper} {rest : List Oper} {op : Oper} {a : Act} {w : World} {Q : Exit → Act → World → Prop} (hgd : op.guard = none) (ty : TypeId) (x y : Operand) (ho : op.op = .store ty x y)
    (b : Nat) (c c' : Array Value) (hx : a.eval x = .pointer (some ⟨b, 0, none⟩)) (hy : a.eval y = .agg c')
    (hg : w.heap[b]? = some (.cells c ty (0, 0))) (hi : (P.info? ty).map (·.size) = some c'.size) (hc : c.size = c'.size) (h1 : c'.all (·.oneCell') = true)
    (h : wpList P ops Q rest (a.put op.dst undef) (w.setRow b c')) : wpList P ops Q (op :: rest) a w :=
  wpList_plain hgd fun _ hK => by
    unfold Oper.wp execOp
    simp only [ho, hx, hy, Instr.storeAt, Instr.sureAddr, Sem.run_bind, Sem.run_pure, Result.andThen_ok, run_storeVar_row w b ty ty c c' hg hi hc h1]
    exact hK _ _ h

theorem wpList_build_of {P : Program} {ops : Array Oper} {rest : List Oper} {op : Oper} {a : Act} {w : World} {Q : Exit → Act → World → Prop} (hgd : op.guard = none) (t : TypeId) (parts : Array (Nat × Operand)) (ho : op.op = .build t parts)
    (vs : Array (Nat × Value)) (hv : (parts.map fun (i, x) => (i, a.eval x)) = vs) (F : Array Value) (hF : P.built t vs.toList = some F)
    (h : wpList P ops Q rest (a.put op.dst (.agg F)) w) : wpList P ops Q (op :: rest) a w :=
  wpList_plain hgd fun _ hK => by
    unfold Oper.wp execOp
    simp only [ho, hv, Sem.run_bind, run_build w t vs F hF, Result.andThen_ok, Sem.run_pure]
    exact hK _ _ h
theorem wpList_box_of {P : Program} {ops : Array Oper} {rest : List Oper} {op : Oper} {a : Act} {w : World} {Q : Exit → Act → World → Prop} (hgd : op.guard = none) (t : TypeId) (x : Operand) (ho : op.op = .box t x)
    (F : Array Value) (hx : a.eval x = .agg F)
    (h : wpList P ops Q rest (a.put op.dst (.pointer (some ⟨w.heap.size, 0, none⟩))) (w.alloc (.cells F t))) : wpList P ops Q (op :: rest) a w :=
  wpList_plain hgd fun _ hK => by
    have hr : (Instr.box t (.agg F)).run P w = .ok (.pointer (some ⟨w.heap.size, 0, none⟩)) (w.alloc (.cells F t)) := by
      simp [Instr.box, newVar, Value.cells, go_sem]
    unfold Oper.wp execOp
    simp only [ho, hx, Sem.run_bind, hr, Result.andThen_ok, Sem.run_pure]
    exact hK _ _ h

end Go.Proofs.Ytbgpgdbheajekaa

/-
  The plain mathematics of the field with 256 elements, on natural numbers: the powers of 3, their exponents, products, quotients and powers, and the laws that they keep. Conditions: none; nothing of the program is named here.
-/
namespace Gf

/-- Times 2, modulo x^8 + x^4 + x^3 + x + 1. -/
def dbl (a : Nat) : Nat := ((2 * a) % 256) ^^^ (if a < 128 then 0 else 27)
/-- Times 3. -/
def tri (a : Nat) : Nat := dbl a ^^^ a
/-- The powers of 3. -/
def pw : Nat → Nat
  | 0 => 1
  | n + 1 => tri (pw n)
/-- The table of exponents behind k rounds. -/
def lt : Nat → Nat → Nat
  | 0, _ => 0
  | k + 1, x => if x = pw k then k else lt k x
def lg (x : Nat) : Nat := lt 255 x
def mul (a b : Nat) : Nat := if a = 0 ∨ b = 0 then 0 else pw ((lg a + lg b) % 255)
def quo (a b : Nat) : Nat := if a = 0 then 0 else pw ((lg a + 255 - lg b) % 255)
def pow (a n : Nat) : Nat := if n = 0 then 1 else if a = 0 then 0 else pw ((lg a * (n % 255)) % 255)

def run : Nat → Nat → List Nat
  | 0, _ => []
  | n + 1, x => x :: run n (tri x)

theorem run_at : ∀ (n i s : Nat), i < n → (run n (pw s))[i]? = some (pw (s + i))
  | 0, _, _, h => by omega
  | n + 1, 0, s, _ => by simp [run]
  | n + 1, i + 1, s, h => by
    have := run_at n i (s + 1) (by omega)
    simp only [run, List.getElem?_cons_succ]
    rw [show tri (pw s) = pw (s + 1) from rfl, this]
    congr 2; omega

theorem run_len : ∀ (n x : Nat), (run n x).length = n
  | 0, _ => rfl
  | n + 1, x => by simp [run, run_len n]

theorem tab_nodup : (run 255 1).Nodup := by decide +kernel
theorem tab_all : ∀ a, a < 256 → a ≠ 0 → a ∈ run 255 1 := by decide +kernel
theorem tab_small : ∀ a ∈ run 255 1, a ≠ 0 ∧ a < 256 := by decide +kernel
theorem tri_add : ∀ a, a < 256 → ∀ b, b < 256 → tri (a ^^^ b) = tri a ^^^ tri b := by decide +kernel
theorem tri_lt : ∀ a, a < 256 → tri a < 256 := by decide +kernel
theorem dbl_lt : ∀ a, a < 256 → dbl a < 256 := by decide +kernel
theorem pw_255 : pw 255 = 1 := by decide +kernel

theorem tab_at (i : Nat) (h : i < 255) : (run 255 1)[i]? = some (pw i) := by
  have := run_at 255 i 0 h
  simpa [pw] using this

theorem pw_inj (i j : Nat) (hi : i < 255) (hj : j < 255) (h : pw i = pw j) : i = j := by
  have a := tab_at i hi
  have b := tab_at j hj
  rw [← h] at b
  have hl := run_len 255 1
  obtain ⟨_, ea⟩ := List.getElem?_eq_some_iff.1 a
  obtain ⟨_, eb⟩ := List.getElem?_eq_some_iff.1 b
  have hp := List.pairwise_iff_getElem.1 tab_nodup
  rcases Nat.lt_trichotomy i j with hlt | he | hlt
  · exact absurd (ea.trans eb.symm) (hp i j _ _ hlt)
  · exact he
  · exact absurd (eb.trans ea.symm) (hp j i _ _ hlt)

theorem pw_add255 : ∀ n, pw (n + 255) = pw n
  | 0 => by rw [Nat.zero_add]; exact pw_255
  | n + 1 => by
    rw [show n + 1 + 255 = (n + 255) + 1 from by omega]
    show tri (pw (n + 255)) = tri (pw n)
    rw [pw_add255 n]

theorem pw_mul255 (n : Nat) : ∀ k, pw (n + 255 * k) = pw n
  | 0 => rfl
  | k + 1 => by rw [show n + 255 * (k + 1) = (n + 255 * k) + 255 from by omega, pw_add255, pw_mul255 n k]

theorem pw_mod (n : Nat) : pw (n % 255) = pw n := by
  have := pw_mul255 (n % 255) (n / 255)
  rw [show n % 255 + 255 * (n / 255) = n from by omega] at this
  exact this.symm

theorem pw_bd (n : Nat) : pw n ≠ 0 ∧ pw n < 256 := by
  rw [← pw_mod]
  exact tab_small _ (List.mem_of_getElem? (tab_at _ (by omega)))

theorem lt_pw (k i : Nat) (hk : k ≤ 255) (hi : i < k) : lt k (pw i) = i := by
  induction k with
  | zero => omega
  | succ k ih =>
    unfold lt
    by_cases e : i = k
    · subst e; simp
    · rw [if_neg (fun h => e (pw_inj i k (by omega) (by omega) h))]
      exact ih (by omega) (by omega)

theorem lg_pw (i : Nat) (hi : i < 255) : lg (pw i) = i := lt_pw 255 i (by omega) hi

theorem is_pw (a : Nat) (h : a < 256) (h0 : a ≠ 0) : ∃ i, i < 255 ∧ pw i = a := by
  obtain ⟨i, hi⟩ := List.getElem?_of_mem (tab_all a h h0)
  have hl : i < 255 := by
    have := (List.getElem?_eq_some_iff.1 hi).1
    rwa [run_len] at this
  exact ⟨i, hl, by rw [tab_at i hl] at hi; exact Option.some.inj hi⟩

theorem lt_lt : ∀ (k x : Nat), k ≤ 256 → lt k x < 256
  | 0, _, _ => by simp [lt]
  | k + 1, x, h => by
    unfold lt
    split
    · omega
    · exact lt_lt k x (by omega)

theorem lg_lt (x : Nat) : lg x < 255 := by
  have : ∀ k, k ≤ 255 → lt k x < 255 := by
    intro k
    induction k with
    | zero => intro _; simp [lt]
    | succ k ih =>
      intro h
      unfold lt
      split
      · omega
      · exact ih (by omega)
  exact this 255 (by omega)

theorem pw_lg (a : Nat) (h : a < 256) (h0 : a ≠ 0) : pw (lg a) = a := by
  obtain ⟨i, hi, rfl⟩ := is_pw a h h0
  rw [lg_pw i hi]

theorem mul_pw (i j : Nat) : mul (pw i) (pw j) = pw (i + j) := by
  unfold mul
  rw [if_neg (by have := pw_bd i; have := pw_bd j; omega)]
  rw [← pw_mod i, ← pw_mod j, lg_pw _ (by omega), lg_pw _ (by omega), pw_mod, ← pw_mod (i + j), ← pw_mod (i % 255 + j % 255)]
  congr 1; omega

theorem mul_zero (a : Nat) : mul a 0 = 0 := by simp [mul]
theorem zero_mul (a : Nat) : mul 0 a = 0 := by simp [mul]
theorem mul_comm (a b : Nat) : mul a b = mul b a := by
  unfold mul
  rw [Nat.add_comm (lg a)]
  by_cases h : a = 0 ∨ b = 0
  · rw [if_pos h, if_pos h.symm]
  · rw [if_neg h, if_neg (fun k => h k.symm)]

theorem mul_lt (a b : Nat) : mul a b < 256 := by
  unfold mul
  split
  · omega
  · exact (pw_bd _).2

theorem mul_ne (a b : Nat) (h : a ≠ 0) (k : b ≠ 0) : mul a b ≠ 0 := by
  unfold mul
  rw [if_neg (by omega)]
  exact (pw_bd _).1

theorem mul_assoc (a b c : Nat) (ha : a < 256) (hb : b < 256) (hc : c < 256) : mul (mul a b) c = mul a (mul b c) := by
  by_cases a0 : a = 0
  · subst a0; simp [zero_mul]
  by_cases b0 : b = 0
  · subst b0; simp [zero_mul, mul_zero]
  by_cases c0 : c = 0
  · subst c0; simp [mul_zero]
  obtain ⟨i, _, rfl⟩ := is_pw a ha a0
  obtain ⟨j, _, rfl⟩ := is_pw b hb b0
  obtain ⟨k, _, rfl⟩ := is_pw c hc c0
  simp only [mul_pw]
  congr 1; omega

def tris : Nat → Nat → Nat
  | 0, x => x
  | n + 1, x => tri (tris n x)
theorem tris_lt : ∀ (n x : Nat), x < 256 → tris n x < 256
  | 0, _, h => h
  | n + 1, x, h => tri_lt _ (tris_lt n x h)
theorem tris_add : ∀ (n a b : Nat), a < 256 → b < 256 → tris n (a ^^^ b) = tris n a ^^^ tris n b
  | 0, _, _, _, _ => rfl
  | n + 1, a, b, ha, hb => by
    show tri (tris n (a ^^^ b)) = tri (tris n a) ^^^ tri (tris n b)
    rw [tris_add n a b ha hb, tri_add _ (tris_lt n a ha) _ (tris_lt n b hb)]
theorem tris_zero : ∀ n, tris n 0 = 0
  | 0 => rfl
  | n + 1 => by show tri (tris n 0) = 0; rw [tris_zero n]; rfl
theorem tris_pw : ∀ n j, tris n (pw j) = pw (n + j)
  | 0, j => by simp [tris]
  | n + 1, j => by
    show tri (tris n (pw j)) = _
    rw [tris_pw n j, show n + 1 + j = (n + j) + 1 from by omega]; rfl
theorem mul_tris (i b : Nat) (hb : b < 256) : mul (pw i) b = tris i b := by
  by_cases b0 : b = 0
  · subst b0; rw [mul_zero, tris_zero]
  · obtain ⟨j, _, rfl⟩ := is_pw b hb b0
    rw [mul_pw, tris_pw]

theorem xor_lt (a b : Nat) (ha : a < 256) (hb : b < 256) : a ^^^ b < 256 := Nat.xor_lt_two_pow (n := 8) ha hb

theorem mul_add (a b c : Nat) (ha : a < 256) (hb : b < 256) (hc : c < 256) : mul a (b ^^^ c) = mul a b ^^^ mul a c := by
  by_cases a0 : a = 0
  · subst a0; simp [zero_mul]
  obtain ⟨i, _, rfl⟩ := is_pw a ha a0
  rw [mul_tris i _ (xor_lt b c hb hc), mul_tris i _ hb, mul_tris i _ hc, tris_add i b c hb hc]

theorem add_mul (a b c : Nat) (ha : a < 256) (hb : b < 256) (hc : c < 256) : mul (a ^^^ b) c = mul a c ^^^ mul b c := by
  rw [mul_comm, mul_add c a b hc ha hb, mul_comm c a, mul_comm c b]

theorem mul_one (a : Nat) (ha : a < 256) : mul a 1 = a := by
  rw [mul_comm, show (1 : Nat) = pw 0 from rfl, mul_tris 0 a ha]; rfl
theorem one_mul (a : Nat) (ha : a < 256) : mul 1 a = a := by rw [mul_comm, mul_one a ha]
theorem mul_three (a : Nat) (ha : a < 256) : mul 3 a = tri a := by
  rw [show (3 : Nat) = pw 1 from by decide +kernel, mul_tris 1 a ha]; rfl
theorem mul_two (a : Nat) (ha : a < 256) : mul 2 a = dbl a := by
  rw [show (2 : Nat) = 3 ^^^ 1 from by decide, add_mul 3 1 a (by omega) (by omega) ha, mul_three a ha, one_mul a ha]
  unfold tri
  rw [Nat.xor_assoc, Nat.xor_self, Nat.xor_zero]

/-! Quotients. -/
theorem quo_lt (a b : Nat) : quo a b < 256 := by
  unfold quo
  split
  · omega
  · exact (pw_bd _).2
theorem quo_mul (a b : Nat) (ha : a < 256) (hb : b < 256) (b0 : b ≠ 0) : mul (quo a b) b = a := by
  obtain ⟨j, hj, rfl⟩ := is_pw b hb b0
  by_cases a0 : a = 0
  · subst a0; simp [quo, zero_mul]
  obtain ⟨i, hi, rfl⟩ := is_pw a ha a0
  unfold quo
  rw [if_neg a0, lg_pw i hi, lg_pw j hj, mul_pw, ← pw_mod, ← pw_mod i]
  congr 1; omega
/-- What is multiplied by an element other than 0 tells the element. -/
theorem mul_cancel (a c b : Nat) (ha : a < 256) (hc : c < 256) (hb : b < 256) (b0 : b ≠ 0) (h : mul a b = mul c b) : a = c := by
  have hq := quo_mul 1 b (by omega) hb b0
  have e1 : mul (mul a b) (quo 1 b) = a := by
    rw [mul_assoc a b _ ha hb (quo_lt _ _), mul_comm b, hq, mul_one a ha]
  have e2 : mul (mul c b) (quo 1 b) = c := by
    rw [mul_assoc c b _ hc hb (quo_lt _ _), mul_comm b, hq, mul_one c hc]
  rw [← e1, ← e2, h]
theorem quo_of (a b d : Nat) (ha : a < 256) (hb : b < 256) (b0 : b ≠ 0) (hd : d < 256) (h : mul d b = a) : quo a b = d :=
  mul_cancel _ _ b (quo_lt _ _) hd hb b0 ((quo_mul a b ha hb b0).trans h.symm)
theorem quo_ne (a b : Nat) (a0 : a ≠ 0) : quo a b ≠ 0 := by
  unfold quo
  rw [if_neg a0]
  exact (pw_bd _).1
theorem quo_inv (a b : Nat) (ha : a < 256) (hb : b < 256) (b0 : b ≠ 0) : quo a b = mul a (quo 1 b) := by
  refine quo_of a b _ ha hb b0 (mul_lt _ _) ?_
  rw [mul_assoc a _ b ha (quo_lt _ _) hb, quo_mul 1 b (by omega) hb b0, mul_one a ha]
theorem inv_inv (b : Nat) (hb : b < 256) (b0 : b ≠ 0) : quo 1 (quo 1 b) = b :=
  quo_of 1 _ b (by omega) (quo_lt _ _) (quo_ne 1 b (by omega)) hb (by rw [mul_comm]; exact quo_mul 1 b (by omega) hb b0)
theorem mul_quo (a b : Nat) (ha : a < 256) (hb : b < 256) (b0 : b ≠ 0) : quo (mul a b) b = a :=
  quo_of _ b a (mul_lt _ _) hb b0 ha rfl
theorem inv_inj (a b : Nat) (ha : a < 256) (hb : b < 256) (a0 : a ≠ 0) (b0 : b ≠ 0) (h : quo 1 a = quo 1 b) : a = b := by
  rw [← inv_inv a ha a0, ← inv_inv b hb b0, h]

/-! Powers. -/
theorem pow_lt (a n : Nat) : pow a n < 256 := by
  unfold pow
  split
  · omega
  · split
    · omega
    · exact (pw_bd _).2
theorem pow_pw (i n : Nat) (hi : i < 255) : pow (pw i) n = pw (i * n) := by
  unfold pow
  by_cases n0 : n = 0
  · subst n0; simp [pw]
  · rw [if_neg n0, if_neg (pw_bd i).1, lg_pw i hi, pw_mod, ← pw_mod (i * (n % 255)), ← pw_mod (i * n)]
    congr 1
    rw [Nat.mul_mod, Nat.mod_mod, ← Nat.mul_mod]
theorem pow_zero (a : Nat) : pow a 0 = 1 := by simp [pow]
theorem zero_pow (n : Nat) (h : n ≠ 0) : pow 0 n = 0 := by simp [pow, h]
theorem pow_succ (a n : Nat) (ha : a < 256) : pow a (n + 1) = mul (pow a n) a := by
  by_cases a0 : a = 0
  · subst a0; rw [zero_pow _ (by omega), mul_zero]
  · obtain ⟨i, hi, rfl⟩ := is_pw a ha a0
    rw [pow_pw i _ hi, pow_pw i _ hi, mul_pw]; rfl
theorem pow_add (a n m : Nat) (ha : a < 256) : pow a (n + m) = mul (pow a n) (pow a m) := by
  by_cases a0 : a = 0
  · subst a0
    by_cases n0 : n = 0
    · subst n0; rw [pow_zero, Nat.zero_add, one_mul _ (pow_lt _ _)]
    · rw [zero_pow n n0, zero_mul, zero_pow _ (by omega)]
  · obtain ⟨i, hi, rfl⟩ := is_pw a ha a0
    rw [pow_pw i _ hi, pow_pw i _ hi, pow_pw i _ hi, mul_pw, Nat.mul_add]
theorem pow_one (a : Nat) (ha : a < 256) : pow a 1 = a := by rw [pow_succ a 0 ha, pow_zero, one_mul a ha]
theorem pow_two (a : Nat) (ha : a < 256) : pow a 2 = mul a a := by rw [pow_succ a 1 ha, pow_one a ha]
theorem pow_255 (a : Nat) (ha : a < 256) (a0 : a ≠ 0) : pow a 255 = 1 := by
  obtain ⟨i, hi, rfl⟩ := is_pw a ha a0
  rw [pow_pw i _ hi, ← pw_mod, Nat.mul_mod_left]; rfl
theorem pow_256 (a : Nat) (ha : a < 256) : pow a 256 = a := by
  by_cases a0 : a = 0
  · subst a0; rfl
  · rw [pow_succ a 255 ha, pow_255 a ha a0, one_mul a ha]
theorem pow_mod (a n : Nat) (ha : a < 256) (a0 : a ≠ 0) : pow a (n % 255) = pow a n := by
  obtain ⟨i, hi, rfl⟩ := is_pw a ha a0
  rw [pow_pw i _ hi, pow_pw i _ hi, ← pw_mod (i * (n % 255)), ← pw_mod (i * n)]
  congr 1
  rw [Nat.mul_mod, Nat.mod_mod, ← Nat.mul_mod]
theorem pow_three (n : Nat) : pow 3 n = pw n := by
  rw [show (3 : Nat) = pw 1 from by decide +kernel, pow_pw 1 n (by omega), Nat.one_mul]
theorem pow_lg (a : Nat) (ha : a < 256) (a0 : a ≠ 0) : pow 3 (lg a) = a := by rw [pow_three, pw_lg a ha a0]
theorem pow_sq (a n : Nat) (ha : a < 256) : pow (mul a a) n = pow a (2 * n) := by
  by_cases a0 : a = 0
  · subst a0
    rw [mul_zero]
    by_cases n0 : n = 0
    · subst n0; rfl
    · rw [zero_pow n n0, zero_pow _ (by omega)]
  · obtain ⟨i, hi, rfl⟩ := is_pw a ha a0
    rw [mul_pw, ← pw_mod (i + i), pow_pw _ n (by omega), pow_pw i _ hi, ← pw_mod, ← pw_mod (i * (2 * n))]
    congr 1
    rw [Nat.mul_mod, Nat.mod_mod, ← Nat.mul_mod]
    congr 1
    rw [← Nat.mul_assoc]
    congr 1; omega

/-- One round of the power by squares. -/
theorem pow_step (o x m : Nat) (ho : o < 256) (hx : x < 256) : mul o (pow x m) = mul (if m % 2 = 1 then mul o x else o) (pow (mul x x) (m / 2)) := by
  rw [pow_sq x _ hx]
  split
  · rename_i h
    rw [mul_assoc o x _ ho hx (pow_lt _ _), mul_comm x, ← pow_succ x _ hx]
    congr 2; omega
  · congr 2; omega

/-! Squares. -/
theorem sq_add (a b : Nat) (ha : a < 256) (hb : b < 256) : pow (a ^^^ b) 2 = pow a 2 ^^^ pow b 2 := by
  have hx := xor_lt a b ha hb
  rw [pow_two _ hx, pow_two a ha, pow_two b hb, mul_add _ a b hx ha hb, add_mul a b a ha hb ha, add_mul a b b ha hb hb, mul_comm b a]
  rw [Nat.xor_assoc, ← Nat.xor_assoc (mul a b), Nat.xor_self, Nat.zero_xor]
theorem xor_zero_iff (a b : Nat) (h : a ^^^ b = 0) : a = b := by
  have e : (a ^^^ b) ^^^ b = a := by rw [Nat.xor_assoc, Nat.xor_self, Nat.xor_zero]
  rw [← e, h, Nat.zero_xor]
theorem sq_inj (a b : Nat) (ha : a < 256) (hb : b < 256) (h : pow a 2 = pow b 2) : a = b := by
  have hx := xor_lt a b ha hb
  have e : pow (a ^^^ b) 2 = 0 := by rw [sq_add a b ha hb, h, Nat.xor_self]
  rw [pow_two _ hx] at e
  refine xor_zero_iff a b (Decidable.byContradiction fun hn => mul_ne _ _ hn hn e)

/-! Logarithms. -/
theorem lg_mul (a b : Nat) (a0 : a ≠ 0) (b0 : b ≠ 0) : lg (mul a b) = (lg a + lg b) % 255 := by
  unfold mul
  rw [if_neg (by omega), lg_pw _ (by omega)]
theorem lg_pow3 (n : Nat) : lg (pow 3 n) = n % 255 := by
  rw [pow_three, ← pw_mod, lg_pw _ (by omega)]
theorem lg_inj (a b : Nat) (ha : a < 256) (hb : b < 256) (a0 : a ≠ 0) (b0 : b ≠ 0) (h : lg a = lg b) : a = b := by
  rw [← pw_lg a ha a0, ← pw_lg b hb b0, h]

/-- One round of the product bit by bit. -/
theorem mul_step (x y : Nat) (hx : x < 256) (hy : y < 256) : mul x y = (if y % 2 = 1 then x else 0) ^^^ mul (dbl x) (y / 2) := by
  have h2 : mul 2 (y / 2) = 2 * (y / 2) := by
    rw [mul_two _ (by omega)]
    unfold dbl
    rw [if_pos (by omega), Nat.xor_zero, Nat.mod_eq_of_lt (by omega)]
  have e : y = (y % 2) ^^^ (2 * (y / 2)) := by
    have hs : ∀ y, y < 256 → y = (y % 2) ^^^ (2 * (y / 2)) := by decide +kernel
    exact hs y hy
  have e2 : mul x (y % 2) = if y % 2 = 1 then x else 0 := by
    rcases Nat.mod_two_eq_zero_or_one y with h | h
    · rw [h, mul_zero]; rfl
    · rw [h, mul_one x hx]; rfl
  have e3 : mul x (2 * (y / 2)) = mul (dbl x) (y / 2) := by
    rw [← h2, ← mul_assoc x 2 _ hx (by omega) (by omega), mul_comm x 2, mul_two x hx]
  conv => lhs; rw [e]
  rw [mul_add x _ _ hx (by omega) (by omega), e2, e3]

end Gf

/-
  The plain mathematics of polynomials over the field with 256 elements, as lists of coefficients, the lowest first: values, sums, products, trimming, division's uniqueness, and that as many values as coefficients tell a polynomial. Conditions: none; nothing of the program is named here.
-/
namespace Pol
open Gf (mul)

/-! ### Sums without carry -/
def xs : Nat → (Nat → Nat) → Nat
  | 0, _ => 0
  | n + 1, f => xs n f ^^^ f n
theorem xs_congr {f g : Nat → Nat} : ∀ n, (∀ i, i < n → f i = g i) → xs n f = xs n g
  | 0, _ => rfl
  | n + 1, h => by simp only [xs]; rw [xs_congr n (fun i hi => h i (by omega)), h n (by omega)]
theorem xs_zero {f : Nat → Nat} : ∀ n, (∀ i, i < n → f i = 0) → xs n f = 0
  | 0, _ => rfl
  | n + 1, h => by simp only [xs]; rw [xs_zero n (fun i hi => h i (by omega)), h n (by omega)]; rfl
theorem xs_shift (f : Nat → Nat) : ∀ n, xs (n + 1) f = f 0 ^^^ xs n (fun i => f (i + 1))
  | 0 => by simp [xs]
  | n + 1 => by rw [xs, xs_shift f n]; simp only [xs]; rw [Nat.xor_assoc]
theorem xor_swap (a b c d : Nat) : (a ^^^ b) ^^^ (c ^^^ d) = (a ^^^ c) ^^^ (b ^^^ d) := by
  rw [Nat.xor_assoc, Nat.xor_assoc, ← Nat.xor_assoc b, ← Nat.xor_assoc c, Nat.xor_comm b c]
theorem xs_add (f g : Nat → Nat) : ∀ n, xs n (fun i => f i ^^^ g i) = xs n f ^^^ xs n g
  | 0 => (Nat.xor_self 0).symm
  | n + 1 => by simp only [xs]; rw [xs_add f g n, xor_swap]
theorem xs_lt {f : Nat → Nat} : ∀ n, (∀ i, i < n → f i < 256) → xs n f < 256
  | 0, _ => by simp [xs]
  | n + 1, h => Gf.xor_lt _ _ (xs_lt n (fun i hi => h i (by omega))) (h n (by omega))
/-- One summand changes. -/
theorem xs_update (f : Nat → Nat) (d c : Nat) : ∀ n, d < n → xs n (fun i => if i = d then f i ^^^ c else f i) = xs n f ^^^ c
  | 0, h => by omega
  | n + 1, h => by
    simp only [xs]
    by_cases e : d = n
    · subst e
      rw [if_pos rfl, xs_congr (g := f) d (fun i hi => if_neg (by omega)), Nat.xor_assoc]
    · rw [if_neg (fun h => e h.symm), xs_update f d c n (by omega), Nat.xor_assoc, Nat.xor_comm c, ← Nat.xor_assoc]
theorem mul_xs (x : Nat) (f : Nat → Nat) (hx : x < 256) : ∀ n, (∀ i, i < n → f i < 256) → mul x (xs n f) = xs n (fun i => mul x (f i))
  | 0, _ => Gf.mul_zero x
  | n + 1, h => by
    simp only [xs]
    rw [Gf.mul_add x _ _ hx (xs_lt n (fun i hi => h i (by omega))) (h n (by omega)), mul_xs x f hx n (fun i hi => h i (by omega))]

/-! ### Coefficients -/
def co (l : List Nat) (i : Nat) : Nat := l[i]?.getD 0
def Sm (l : List Nat) : Prop := ∀ i, co l i < 256
theorem co_nil (i : Nat) : co [] i = 0 := by simp [co]
theorem co_zero (x : Nat) (l : List Nat) : co (x :: l) 0 = x := by simp [co]
theorem co_succ (x : Nat) (l : List Nat) (i : Nat) : co (x :: l) (i + 1) = co l i := by simp [co]
theorem co_out (l : List Nat) (i : Nat) (h : l.length ≤ i) : co l i = 0 := by simp [co, List.getElem?_eq_none h]
theorem co_lt_of {l : List Nat} (h : ∀ x ∈ l, x < 256) : Sm l := fun i => by
  unfold co
  cases hq : l[i]? with
  | none => simp
  | some v => simpa using h v (List.mem_of_getElem? hq)
theorem Sm.mem {l : List Nat} (h : Sm l) : ∀ x ∈ l, x < 256 := fun x hx => by
  obtain ⟨i, hi⟩ := List.getElem?_of_mem hx
  have := h i
  simpa [co, hi] using this
theorem Sm.nil : Sm [] := fun i => by rw [co_nil]; omega
theorem Sm.tail {x : Nat} {l : List Nat} (h : Sm (x :: l)) : Sm l := fun i => by have := h (i + 1); rwa [co_succ] at this
theorem Sm.head {x : Nat} {l : List Nat} (h : Sm (x :: l)) : x < 256 := by have := h 0; rwa [co_zero] at this
theorem Sm.cons {x : Nat} {l : List Nat} (hx : x < 256) (h : Sm l) : Sm (x :: l) := fun i => by
  cases i with
  | zero => rw [co_zero]; exact hx
  | succ i => rw [co_succ]; exact h i

/-! ### Trimming -/
def trim : List Nat → List Nat
  | [] => []
  | x :: l => match trim l with
    | [] => if x = 0 then [] else [x]
    | y :: t => x :: y :: t
theorem trim_cons (x : Nat) (l : List Nat) : trim (x :: l) = if trim l = [] ∧ x = 0 then [] else x :: trim l := by
  rw [trim]
  cases h : trim l with
  | nil => by_cases e : x = 0 <;> simp [e]
  | cons y t => simp
theorem co_trim : ∀ (l : List Nat) (i : Nat), co (trim l) i = co l i
  | [], _ => rfl
  | x :: l, i => by
    rw [trim_cons]
    split
    · rename_i h
      cases i with
      | zero => rw [co_nil, co_zero, h.2]
      | succ i => rw [co_nil, co_succ, ← co_trim l i, h.1, co_nil]
    · cases i with
      | zero => rw [co_zero, co_zero]
      | succ i => rw [co_succ, co_succ, co_trim l i]
theorem trim_ext : ∀ (a b : List Nat), (∀ i, co a i = co b i) → trim a = trim b
  | [], [], _ => rfl
  | [], y :: b, h => by
    have h0 := h 0
    rw [co_nil, co_zero] at h0
    have ih := trim_ext [] b (fun i => by have := h (i + 1); rwa [co_nil, co_succ] at this)
    rw [trim_cons, ← ih, if_pos ⟨rfl, h0.symm⟩]; rfl
  | x :: a, [], h => by
    have h0 := h 0
    rw [co_nil, co_zero] at h0
    have ih := trim_ext a [] (fun i => by have := h (i + 1); rw [co_succ] at this; rw [this, co_nil, co_nil])
    rw [trim_cons, ih, if_pos ⟨rfl, h0⟩]; rfl
  | x :: a, y :: b, h => by
    have h0 := h 0
    rw [co_zero, co_zero] at h0
    have ih := trim_ext a b (fun i => by have := h (i + 1); rwa [co_succ, co_succ] at this)
    rw [trim_cons, trim_cons, ih, h0]
theorem trim_trim (l : List Nat) : trim (trim l) = trim l := trim_ext _ _ (co_trim l)
theorem trim_len (l : List Nat) : (trim l).length ≤ l.length := by
  induction l with
  | nil => simp [trim]
  | cons x l ih =>
    rw [trim_cons]
    split
    · simp
    · simp; exact ih
theorem trim_le : ∀ (l : List Nat) (n : Nat), (∀ i, n ≤ i → co l i = 0) → (trim l).length ≤ n
  | [], n, _ => by simp [trim]
  | x :: l, 0, h => by
    have : trim (x :: l) = trim [] := trim_ext _ _ (fun i => by rw [h i (by omega), co_nil])
    rw [this]; simp [trim]
  | x :: l, n + 1, h => by
    have := trim_le l n (fun i hi => by have := h (i + 1) (by omega); rwa [co_succ] at this)
    rw [trim_cons]
    split
    · simp
    · simp; exact this
/-- The last coefficient of what is trimmed is not 0. -/
theorem trim_last : ∀ (l : List Nat), trim l ≠ [] → co l ((trim l).length - 1) ≠ 0
  | [], h => absurd rfl h
  | x :: l, h => by
    rw [trim_cons] at h ⊢
    by_cases e : trim l = [] ∧ x = 0
    · rw [if_pos e] at h; exact absurd rfl h
    · rw [if_neg e]
      by_cases t : trim l = []
      · rw [t]; simp only [List.length_cons, List.length_nil]
        show co (x :: l) 0 ≠ 0
        rw [co_zero]; exact fun h => e ⟨t, h⟩
      · have := trim_last l t
        have hl : 0 < (trim l).length := List.length_pos_iff.2 t
        rw [List.length_cons, show (trim l).length + 1 - 1 = ((trim l).length - 1) + 1 from by omega, co_succ]
        exact this
theorem trim_of (l : List Nat) (n : Nat) (hn : n ≤ l.length) (h : ∀ i, n ≤ i → co l i = 0) (h1 : n = 0 ∨ co l (n - 1) ≠ 0) : trim l = l.take n := by
  have hlen : (trim l).length = n := by
    have h2 := trim_le l n h
    rcases h1 with rfl | h1
    · omega
    · rcases Nat.lt_or_ge (trim l).length n with hlt | hge
      · have := co_trim l (n - 1)
        rw [co_out (trim l) (n - 1) (by omega)] at this
        exact absurd this.symm h1
      · omega
  apply List.ext_getElem?
  intro i
  by_cases hi : i < n
  · have e := co_trim l i
    unfold co at e
    rw [List.getElem?_take, if_pos hi, List.getElem?_eq_getElem (by omega), List.getElem?_eq_getElem (by omega)]
    rw [List.getElem?_eq_getElem (by omega), List.getElem?_eq_getElem (by omega)] at e
    simpa using e
  · rw [List.getElem?_eq_none (by omega), List.getElem?_eq_none (by simp; omega)]
theorem trim_fix (l : List Nat) (h : l = [] ∨ co l (l.length - 1) ≠ 0) : trim l = l := by
  rw [trim_of l l.length (Nat.le_refl _) (fun i hi => co_out l i hi) (by rcases h with rfl | h; exact .inl rfl; exact .inr h), List.take_length]
theorem Sm.trim {l : List Nat} (h : Sm l) : Sm (trim l) := fun i => by rw [co_trim]; exact h i

/-! ### Values -/
def ev : List Nat → Nat → Nat
  | [], _ => 0
  | a :: l, x => a ^^^ mul x (ev l x)
theorem ev_lt : ∀ (l : List Nat) (x : Nat), Sm l → ev l x < 256
  | [], _, _ => by simp [ev]
  | a :: l, x, h => Gf.xor_lt _ _ h.head (Gf.mul_lt _ _)
theorem ev_all_zero : ∀ (l : List Nat) (x : Nat), (∀ i, co l i = 0) → ev l x = 0
  | [], _, _ => rfl
  | a :: l, x, h => by
    have h0 := h 0
    rw [co_zero] at h0
    rw [ev, h0, ev_all_zero l x (fun i => by have := h (i + 1); rwa [co_succ] at this), Gf.mul_zero]; rfl
theorem ev_congr : ∀ (a b : List Nat) (x : Nat), (∀ i, co a i = co b i) → ev a x = ev b x
  | [], b, x, h => by rw [ev_all_zero b x (fun i => by rw [← h i, co_nil])]; rfl
  | x' :: a, [], x, h => by rw [ev_all_zero (x' :: a) x (fun i => by rw [h i, co_nil])]; rfl
  | x' :: a, y :: b, x, h => by
    have h0 := h 0
    rw [co_zero, co_zero] at h0
    rw [ev, ev, h0, ev_congr a b x (fun i => by have := h (i + 1); rwa [co_succ, co_succ] at this)]
theorem ev_trim (l : List Nat) (x : Nat) : ev (trim l) x = ev l x := ev_congr _ _ _ (co_trim l)
/-- The value, power by power. -/
theorem ev_pow : ∀ (l : List Nat) (x : Nat), Sm l → x < 256 → ev l x = xs l.length (fun i => mul (co l i) (Gf.pow x i))
  | [], _, _, _ => rfl
  | a :: l, x, h, hx => by
    have hl := h.tail
    rw [ev, ev_pow l x hl hx, mul_xs x _ hx _ (fun i _ => Gf.mul_lt _ _), List.length_cons, xs_shift]
    rw [co_zero, Gf.pow_zero, Gf.mul_one a h.head]
    congr 1
    apply xs_congr
    intro i _
    rw [co_succ, Gf.pow_succ x i hx, Gf.mul_comm (Gf.pow x i) x, ← Gf.mul_assoc _ _ _ (hl i) hx (Gf.pow_lt _ _), ← Gf.mul_assoc _ _ _ hx (hl i) (Gf.pow_lt _ _), Gf.mul_comm x]

/-! ### Sums -/
def addP : List Nat → List Nat → List Nat
  | [], b => b
  | a, [] => a
  | x :: a, y :: b => (x ^^^ y) :: addP a b
theorem addP_nil (a : List Nat) : addP a [] = a := by cases a <;> rfl
theorem co_addP : ∀ (a b : List Nat) (i : Nat), co (addP a b) i = co a i ^^^ co b i
  | [], b, i => by rw [addP, co_nil, Nat.zero_xor]
  | x :: a, [], i => by rw [addP_nil, co_nil, Nat.xor_zero]
  | x :: a, y :: b, 0 => by rw [addP, co_zero, co_zero, co_zero]
  | x :: a, y :: b, i + 1 => by rw [addP, co_succ, co_succ, co_succ, co_addP a b i]
theorem addP_len : ∀ (a b : List Nat), (addP a b).length = max a.length b.length
  | [], b => by simp [addP]
  | x :: a, [] => by simp [addP]
  | x :: a, y :: b => by simp only [addP, List.length_cons, addP_len a b]; omega
theorem Sm.add {a b : List Nat} (ha : Sm a) (hb : Sm b) : Sm (addP a b) := fun i => by rw [co_addP]; exact Gf.xor_lt _ _ (ha i) (hb i)
theorem ev_addP : ∀ (a b : List Nat) (x : Nat), Sm a → Sm b → x < 256 → ev (addP a b) x = ev a x ^^^ ev b x
  | [], b, x, _, _, _ => by rw [addP, ev, Nat.zero_xor]
  | y :: a, [], x, _, _, _ => by rw [addP_nil, ev, ev, Nat.xor_zero]
  | y :: a, z :: b, x, ha, hb, hx => by
    rw [addP, ev, ev, ev, ev_addP a b x ha.tail hb.tail hx, Gf.mul_add x _ _ hx (ev_lt a x ha.tail) (ev_lt b x hb.tail), xor_swap]

/-! ### Products -/
def scale (c : Nat) (l : List Nat) : List Nat := l.map (mul c)
theorem co_scale (c : Nat) (l : List Nat) (i : Nat) : co (scale c l) i = mul c (co l i) := by
  unfold co scale
  rw [List.getElem?_map]
  cases l[i]? with
  | none => simp [Gf.mul_zero]
  | some v => simp
theorem Sm.scale (c : Nat) (l : List Nat) : Sm (scale c l) := fun i => by rw [co_scale]; exact Gf.mul_lt _ _
theorem ev_scale (c : Nat) (hc : c < 256) : ∀ (l : List Nat) (x : Nat), Sm l → x < 256 → ev (scale c l) x = mul c (ev l x)
  | [], x, _, _ => (Gf.mul_zero c).symm
  | a :: l, x, h, hx => by
    show mul c a ^^^ mul x (ev (scale c l) x) = mul c (a ^^^ mul x (ev l x))
    rw [ev_scale c hc l x h.tail hx, Gf.mul_add c _ _ hc h.head (Gf.mul_lt _ _), ← Gf.mul_assoc x c _ hx hc (ev_lt l x h.tail), ← Gf.mul_assoc c x _ hc hx (ev_lt l x h.tail), Gf.mul_comm x c]
def mulP : List Nat → List Nat → List Nat
  | [], _ => []
  | x :: a, b => addP (scale x b) (0 :: mulP a b)
theorem Sm.mul (a b : List Nat) : Sm (mulP a b) := by
  induction a with
  | nil => exact Sm.nil
  | cons x a ih => exact (Sm.scale x b).add (Sm.cons (by omega) ih)
theorem ev_mulP : ∀ (a b : List Nat) (x : Nat), Sm a → Sm b → x < 256 → ev (mulP a b) x = Gf.mul (ev a x) (ev b x)
  | [], b, x, _, _, _ => (Gf.zero_mul _).symm
  | y :: a, b, x, ha, hb, hx => by
    have h0 : Sm (0 :: mulP a b) := Sm.cons (by omega) (Sm.mul a b)
    rw [mulP, ev_addP _ _ x (Sm.scale y b) h0 hx, ev_scale y ha.head b x hb hx, ev, ev, Nat.zero_xor, ev_mulP a b x ha.tail hb hx]
    rw [Gf.add_mul _ _ _ ha.head (Gf.mul_lt _ _) (ev_lt b x hb), Gf.mul_assoc x _ _ hx (ev_lt a x ha.tail) (ev_lt b x hb)]
/-- A product's coefficient, summand by summand. -/
def pc (n : Nat) (A B : Nat → Nat) (j : Nat) : Nat := xs n (fun i => if i ≤ j then mul (A i) (B (j - i)) else 0)
theorem co_mulP : ∀ (a b : List Nat) (j : Nat), co (mulP a b) j = pc a.length (co a) (co b) j
  | [], b, j => by rw [mulP, co_nil]; rfl
  | x :: a, b, 0 => by
    rw [mulP, co_addP, co_scale, co_zero, Nat.xor_zero]
    unfold pc
    rw [List.length_cons, xs_shift, if_pos (Nat.le_refl _), co_zero, xs_zero a.length (fun i _ => if_neg (by omega)), Nat.xor_zero]
  | x :: a, b, j + 1 => by
    rw [mulP, co_addP, co_scale, co_succ, co_mulP a b j]
    unfold pc
    rw [List.length_cons, xs_shift, if_pos (by omega), co_zero]
    congr 1
    apply xs_congr
    intro i _
    simp only [co_succ, Nat.add_sub_add_right, Nat.add_le_add_iff_right]
theorem pc_more (A B : Nat → Nat) (n m j : Nat) (hA : ∀ i, n ≤ i → A i = 0) (h : n ≤ m) : pc m A B j = pc n A B j := by
  obtain ⟨d, rfl⟩ : ∃ d, m = n + d := ⟨m - n, by omega⟩
  induction d with
  | zero => rfl
  | succ d ih =>
    have := ih (by omega)
    unfold pc at this ⊢
    rw [show n + (d + 1) = (n + d) + 1 from rfl, xs, this, hA (n + d) (by omega), Gf.zero_mul]
    simp
/-- A coefficient more, at one place. -/
theorem pc_update (n : Nat) (A B : Nat → Nat) (d c j : Nat) (hd : d < n) (hA : ∀ i, A i < 256) (hB : ∀ i, B i < 256) (hc : c < 256) :
    pc n (fun i => if i = d then A i ^^^ c else A i) B j = pc n A B j ^^^ (if d ≤ j then mul c (B (j - d)) else 0) := by
  have e := xs_update (fun i => if i ≤ j then mul (A i) (B (j - i)) else 0) d (if d ≤ j then mul c (B (j - d)) else 0) n hd
  unfold pc
  rw [← e]
  apply xs_congr
  intro i _
  by_cases hi : i = d
  · subst hi
    simp only [if_true]
    by_cases hj : i ≤ j
    · rw [if_pos hj, if_pos hj, if_pos hj, Gf.add_mul _ _ _ (hA i) hc (hB _)]
    · rw [if_neg hj, if_neg hj, if_neg hj]; rfl
  · simp only [if_neg hi]
theorem mulP_len (a b : List Nat) (j : Nat) (h : a.length + b.length ≤ j + 1) (hb : b ≠ []) : co (mulP a b) j = 0 := by
  have hl : 0 < b.length := List.length_pos_iff.2 hb
  rw [co_mulP]
  apply xs_zero
  intro i hi
  by_cases hj : i ≤ j
  · rw [if_pos hj, co_out b _ (by omega), Gf.mul_zero]
  · rw [if_neg hj]
theorem mulP_nil (a : List Nat) (j : Nat) : co (mulP a []) j = 0 := by
  rw [co_mulP]
  apply xs_zero
  intro i _
  rw [co_nil, Gf.mul_zero]; simp

/-! ### As many values as coefficients tell a polynomial -/
def sd (c : Nat) : List Nat → List Nat
  | [] => []
  | _ :: l => ev l c :: sd c l
theorem sd_sm (c : Nat) : ∀ (l : List Nat), Sm l → Sm (sd c l)
  | [], _ => Sm.nil
  | _ :: l, h => Sm.cons (ev_lt l c h.tail) (sd_sm c l h.tail)
theorem sd_len (c : Nat) : ∀ (l : List Nat), (sd c l).length = l.length
  | [] => rfl
  | _ :: l => by simp [sd, sd_len c l]
theorem sd_top (c : Nat) : ∀ (l : List Nat) (i : Nat), l.length ≤ i + 1 → co (sd c l) i = 0
  | [], i, _ => co_nil i
  | [_], 0, _ => by simp [sd, co, ev]
  | a :: b :: l, 0, h => by simp at h
  | _ :: l, i + 1, h => by
    rw [sd, co_succ]
    exact sd_top c l i (by simpa using h)
theorem ev_sd (c : Nat) (hc : c < 256) : ∀ (l : List Nat) (y : Nat), Sm l → y < 256 → ev l y = mul (y ^^^ c) (ev (sd c l) y) ^^^ ev l c
  | [], y, _, _ => by simp [ev, sd, Gf.mul_zero]
  | a :: l, y, h, hy => by
    have hl := h.tail
    have hv := ev_lt l c hl
    have hs := ev_lt (sd c l) y (sd_sm c l hl)
    have hx := Gf.xor_lt y c hy hc
    have ih := ev_sd c hc l y hl hy
    simp only [ev, sd]
    generalize ev l c = v at *
    generalize ev (sd c l) y = s at *
    rw [ih, Gf.mul_add y _ _ hy (Gf.mul_lt _ _) hv, Gf.mul_add _ _ _ hx hv (Gf.mul_lt _ _), Gf.add_mul y c v hy hc hv]
    rw [← Gf.mul_assoc y _ _ hy hx hs, ← Gf.mul_assoc _ y _ hx hy hs, Gf.mul_comm y (y ^^^ c)]
    generalize mul (mul (y ^^^ c) y) s = p
    generalize mul y v = q
    generalize mul c v = r
    apply Nat.eq_of_testBit_eq
    intro i
    simp only [Nat.testBit_xor]
    cases a.testBit i <;> cases p.testBit i <;> cases q.testBit i <;> cases r.testBit i <;> rfl
/-- The coefficients, out of those of the quotient by x + c. -/
theorem co_sd (c : Nat) : ∀ (l : List Nat), Sm l → ev l c = 0 → ∀ i, co l i = (if i = 0 then 0 else co (sd c l) (i - 1)) ^^^ mul c (co (sd c l) i)
  | [], _, _, i => by
    rw [sd, co_nil, co_nil, Gf.mul_zero]; split <;> simp
  | a :: l, h, h0, 0 => by
    have : a ^^^ mul c (ev l c) = 0 := h0
    rw [if_pos rfl, co_zero, sd, co_zero, Nat.zero_xor]
    exact Gf.xor_zero_iff _ _ this
  | a :: l, h, h0, i + 1 => by
    rw [if_neg (by omega), co_succ, sd, Nat.add_sub_cancel, co_succ]
    have key : ∀ (l : List Nat) (i : Nat), Sm l → co l i = (if i = 0 then ev l c else co (sd c l) (i - 1)) ^^^ mul c (co (sd c l) i) := by
      intro l
      induction l with
      | nil => intro i _; rw [sd, co_nil, co_nil, Gf.mul_zero]; cases i <;> simp [ev]
      | cons b l ih =>
        intro i hs
        cases i with
        | zero =>
          rw [if_pos rfl, co_zero, sd, co_zero]
          show b = (b ^^^ mul c (ev l c)) ^^^ mul c (ev l c)
          rw [Nat.xor_assoc, Nat.xor_self, Nat.xor_zero]
        | succ i =>
          rw [if_neg (by omega), co_succ, sd, Nat.add_sub_cancel, co_succ, ih i hs.tail]
          cases i with
          | zero => rw [if_pos rfl, co_zero]
          | succ i => rw [if_neg (by omega), Nat.add_sub_cancel, co_succ]
    rw [key l i h.tail]
    cases i with
    | zero => rw [if_pos rfl, co_zero]
    | succ i => rw [if_neg (by omega), Nat.add_sub_cancel, co_succ]
theorem roots : ∀ (n : Nat) (l ps : List Nat), ps.length = n → ps.Nodup → (∀ p ∈ ps, p < 256) → Sm l → (∀ i, n ≤ i → co l i = 0) → (∀ p ∈ ps, ev l p = 0) → ∀ i, co l i = 0
  | 0, l, ps, _, _, _, _, hz, _, i => hz i (by omega)
  | n + 1, l, [], hn, _, _, _, _, _, _ => by simp at hn
  | n + 1, l0, c :: ps, hn, hd, hp, hs, hz, hr, i => by
    -- the list, cut to n + 1 coefficients
    have hc : c < 256 := hp c (by simp)
    let l := l0.take (n + 1)
    have hco : ∀ i, co l i = co l0 i := fun i => by
      show co (l0.take (n + 1)) i = co l0 i
      unfold co
      rw [List.getElem?_take]
      by_cases h : i < n + 1
      · rw [if_pos h]
      · rw [if_neg h]
        have := hz i (by omega)
        unfold co at this
        simpa using this.symm
    have hlen : l.length ≤ n + 1 := by simp [l]; omega
    have hsl : Sm l := fun i => by rw [hco]; exact hs i
    have hev : ∀ x, ev l x = ev l0 x := fun x => ev_congr _ _ _ hco
    have hq := sd_sm c l hsl
    have h0 : ev l c = 0 := by rw [hev]; exact hr c (by simp)
    have ih := roots n (sd c l) ps (by simpa using hn) (List.nodup_cons.1 hd).2 (fun p h => hp p (by simp [h])) hq
      (fun i hi => sd_top c l i (by omega)) (fun p h => by
        have hpl : p < 256 := hp p (by simp [h])
        have e := ev_sd c hc l p hsl hpl
        rw [h0, Nat.xor_zero, hev, hr p (by simp [h])] at e
        have hne : p ^^^ c ≠ 0 := fun k => (List.nodup_cons.1 hd).1 (by rw [← Gf.xor_zero_iff p c k]; exact h)
        exact Decidable.byContradiction fun hk => Gf.mul_ne _ _ hne hk e.symm)
    rw [← hco, co_sd c l hsl h0 i, ih i, Gf.mul_zero, Nat.xor_zero]
    split
    · rfl
    · exact ih _
/-- Two polynomials of fewer coefficients than places at which they meet are one. -/
theorem meet (n : Nat) (a b ps : List Nat) (hn : ps.length = n) (hd : ps.Nodup) (hp : ∀ p ∈ ps, p < 256) (ha : Sm a) (hb : Sm b)
    (hla : ∀ i, n ≤ i → co a i = 0) (hlb : ∀ i, n ≤ i → co b i = 0) (h : ∀ p ∈ ps, ev a p = ev b p) : ∀ i, co a i = co b i := fun i => by
  have := roots n (addP a b) ps hn hd hp (ha.add hb) (fun i hi => by rw [co_addP, hla i hi, hlb i hi]; rfl)
    (fun p hpm => by rw [ev_addP a b p ha hb (hp p hpm), h p hpm, Nat.xor_self]) i
  rw [co_addP] at this
  exact Gf.xor_zero_iff _ _ this

/-! ### Products are linear, and degrees add up -/
theorem pc_add_left (n : Nat) (A C B : Nat → Nat) (j : Nat) (hA : ∀ i, A i < 256) (hC : ∀ i, C i < 256) (hB : ∀ i, B i < 256) :
    pc n (fun i => A i ^^^ C i) B j = pc n A B j ^^^ pc n C B j := by
  unfold pc
  rw [← xs_add]
  apply xs_congr
  intro i _
  by_cases h : i ≤ j
  · simp only [if_pos h]; exact Gf.add_mul _ _ _ (hA i) (hC i) (hB _)
  · simp only [if_neg h]; rfl
theorem pc_add_right (n : Nat) (A B C : Nat → Nat) (j : Nat) (hA : ∀ i, A i < 256) (hB : ∀ i, B i < 256) (hC : ∀ i, C i < 256) :
    pc n A (fun i => B i ^^^ C i) j = pc n A B j ^^^ pc n A C j := by
  unfold pc
  rw [← xs_add]
  apply xs_congr
  intro i _
  by_cases h : i ≤ j
  · simp only [if_pos h]; exact Gf.mul_add _ _ _ (hA i) (hB _) (hC _)
  · simp only [if_neg h]; rfl
theorem co_mulP_of (a b : List Nat) (n j : Nat) (h : a.length ≤ n) : co (mulP a b) j = pc n (co a) (co b) j := by
  rw [co_mulP, pc_more (co a) (co b) a.length n j (fun i hi => co_out a i hi) h]
theorem pc_congr {A A' B B' : Nat → Nat} (n j : Nat) (hA : ∀ i, A i = A' i) (hB : ∀ i, B i = B' i) : pc n A B j = pc n A' B' j := by
  unfold pc
  apply xs_congr
  intro i _
  rw [hA, hB]
theorem mulP_congr (a b a' b' : List Nat) (ha : ∀ i, co a i = co a' i) (hb : ∀ i, co b i = co b' i) (j : Nat) : co (mulP a b) j = co (mulP a' b') j := by
  rw [co_mulP_of a b (max a.length a'.length) j (by omega), co_mulP_of a' b' (max a.length a'.length) j (by omega)]
  exact pc_congr _ _ ha hb
theorem mulP_add_left (a c b : List Nat) (ha : Sm a) (hc : Sm c) (hb : Sm b) (j : Nat) : co (mulP (addP a c) b) j = co (mulP a b) j ^^^ co (mulP c b) j := by
  rw [co_mulP_of (addP a c) b (max a.length c.length) j (by rw [addP_len]; omega), co_mulP_of a b (max a.length c.length) j (by omega), co_mulP_of c b (max a.length c.length) j (by omega)]
  rw [← pc_add_left _ _ _ _ _ ha hc hb]
  exact pc_congr _ _ (co_addP a c) (fun _ => rfl)
theorem mulP_add_right (a b c : List Nat) (ha : Sm a) (hb : Sm b) (hc : Sm c) (j : Nat) : co (mulP a (addP b c)) j = co (mulP a b) j ^^^ co (mulP a c) j := by
  rw [co_mulP, co_mulP, co_mulP, ← pc_add_right _ _ _ _ _ ha hb hc]
  exact pc_congr _ _ (fun _ => rfl) (co_addP b c)
theorem xs_single (f : Nat → Nat) (d : Nat) : ∀ n, d < n → (∀ i, i < n → i ≠ d → f i = 0) → xs n f = f d
  | 0, h, _ => by omega
  | n + 1, h, hz => by
    rw [xs]
    by_cases e : d = n
    · subst e; rw [xs_zero d (fun i hi => hz i (by omega) (by omega)), Nat.zero_xor]
    · rw [xs_single f d n (by omega) (fun i hi => hz i (by omega)), hz n (by omega) (fun h => e h.symm), Nat.xor_zero]
theorem mulP_top (a b : List Nat) (da db : Nat) (ha : ∀ i, da < i → co a i = 0) (hb : ∀ i, db < i → co b i = 0) : co (mulP a b) (da + db) = mul (co a da) (co b db) := by
  rw [co_mulP_of a b (max a.length (da + 1)) _ (by omega)]
  unfold pc
  rw [xs_single _ da _ (by omega), if_pos (by omega), Nat.add_sub_cancel_left]
  intro i _ hne
  rcases Nat.lt_or_gt_of_ne hne with h | h
  · rw [if_pos (by omega), hb _ (by omega), Gf.mul_zero]
  · rw [ha i h, Gf.zero_mul]; simp
theorem mulP_above (a b : List Nat) (da db : Nat) (ha : ∀ i, da < i → co a i = 0) (hb : ∀ i, db < i → co b i = 0) (j : Nat) (hj : da + db < j) : co (mulP a b) j = 0 := by
  rw [co_mulP]
  apply xs_zero
  intro i _
  by_cases h : da < i
  · rw [ha i h, Gf.zero_mul]; simp
  · by_cases k : i ≤ j
    · rw [if_pos k, hb _ (by omega), Gf.mul_zero]
    · rw [if_neg k]
/-- The greatest place of a coefficient that is not 0. -/
theorem top_of (l : List Nat) (h : trim l ≠ []) : co l ((trim l).length - 1) ≠ 0 ∧ ∀ i, (trim l).length - 1 < i → co l i = 0 :=
  ⟨trim_last l h, fun i hi => by rw [← co_trim, co_out _ i (by omega)]⟩
theorem trim_nil_iff (l : List Nat) : trim l = [] ↔ ∀ i, co l i = 0 :=
  ⟨fun h i => by rw [← co_trim, h, co_nil], fun h => trim_ext l [] (fun i => by rw [h i, co_nil])⟩
theorem trim_len_top (l : List Nat) (d : Nat) (h : co l d ≠ 0) (hz : ∀ i, d < i → co l i = 0) : (trim l).length = d + 1 := by
  have h1 := trim_le l (d + 1) (fun i hi => hz i (by omega))
  rcases Nat.lt_or_ge (trim l).length (d + 1) with hlt | hge
  · exact absurd (by rw [← co_trim, co_out _ d (by omega)]) h
  · omega
/-- Quotient and rest are told by what they make. -/
theorem div_one (q a b r : List Nat) (db : Nat) (hq : Sm q) (ha : Sm a) (hb : Sm b) (hb0 : co b db ≠ 0) (hbz : ∀ i, db < i → co b i = 0) (hr : ∀ i, db ≤ i → co r i = 0)
    (h : ∀ j, co (mulP q b) j ^^^ co r j = co (mulP a b) j) : (∀ i, co q i = co a i) ∧ ∀ i, co r i = 0 := by
  have hd : ∀ j, co (mulP (addP q a) b) j = co r j := fun j => by
    rw [mulP_add_left q a b hq ha hb, ← h j, ← Nat.xor_assoc, Nat.xor_self, Nat.zero_xor]
  have hz : ∀ i, co (addP q a) i = 0 := by
    refine (trim_nil_iff _).1 (Decidable.byContradiction fun hne => ?_)
    obtain ⟨t1, t2⟩ := top_of _ hne
    have := mulP_top (addP q a) b _ db t2 hbz
    rw [hd, hr _ (by omega)] at this
    exact Gf.mul_ne _ _ t1 hb0 this.symm
  have hqa : ∀ i, co q i = co a i := fun i => Gf.xor_zero_iff _ _ (by rw [← co_addP]; exact hz i)
  refine ⟨hqa, fun i => ?_⟩
  have e := h i
  rw [mulP_congr q b a b hqa (fun _ => rfl)] at e
  have := Gf.xor_zero_iff (co (mulP a b) i ^^^ co r i) (co (mulP a b) i) (by rw [e, Nat.xor_self])
  have k : co r i = co (mulP a b) i ^^^ (co (mulP a b) i ^^^ co r i) := by rw [← Nat.xor_assoc, Nat.xor_self, Nat.zero_xor]
  rw [k, this, Nat.xor_self]
theorem div_two (q q' b r r' : List Nat) (db : Nat) (hq : Sm q) (hq' : Sm q') (hb : Sm b) (hb0 : co b db ≠ 0) (hbz : ∀ i, db < i → co b i = 0) (hr : ∀ i, db ≤ i → co r i = 0) (hr' : ∀ i, db ≤ i → co r' i = 0)
    (h : ∀ j, co (mulP q b) j ^^^ co r j = co (mulP q' b) j ^^^ co r' j) : (∀ i, co q i = co q' i) ∧ ∀ i, co r i = co r' i := by
  have := div_one q q' b (addP r r') db hq hq' hb hb0 hbz (fun i hi => by rw [co_addP, hr i hi, hr' i hi]; rfl) (fun j => by
    rw [co_addP, ← Nat.xor_assoc, h j, Nat.xor_assoc, Nat.xor_self, Nat.xor_zero])
  exact ⟨this.1, fun i => Gf.xor_zero_iff _ _ (by rw [← co_addP]; exact this.2 i)⟩
end Pol

/-
  Slices of bytes that read as a list: what it means, and that it stays while only new blocks are laid. Conditions: none.
-/
namespace Go.Proofs.Ytbgpgdbheajekaa
open Go.RowKit
open Pol (co Sm)

/-- From address A on lie the bytes l. -/
def Rd (w : World) (A : Option Addr) (l : List Nat) : Prop :=
  Sm l ∧ ∀ i, i < l.length → ∃ b o, A = some ⟨b, o, none⟩ ∧ w.cell? ⟨b, o + i, none⟩ = some (.int .u8 ((co l i : Nat) : Int))
theorem Rd.ext {w w' : World} {A : Option Addr} {l : List Nat} (h : Rd w A l) (hx : Ext w w') : Rd w' A l :=
  ⟨h.1, fun i hi => by
    obtain ⟨b, o, e, hc⟩ := h.2 i hi
    exact ⟨b, o, e, (hx.below.cell (p := ⟨b, o + i, none⟩) (block_lt_of_cell hc)).trans hc⟩⟩
theorem Rd.drewN {w : World} {A : Option Addr} {l : List Nat} (h : Rd w A l) (n : Nat) : Rd (w.drewN n) A l := h
theorem Rd.nil (w : World) (A : Option Addr) : Rd w A [] := ⟨Sm.nil, fun i hi => absurd hi (by simp)⟩
theorem Rd.addr {w : World} {A : Option Addr} {l : List Nat} (h : Rd w A l) (hl : 0 < l.length) : ∃ b o, A = some ⟨b, o, none⟩ ∧ ∀ i, i < l.length → w.cell? ⟨b, o + i, none⟩ = some (.int .u8 ((co l i : Nat) : Int)) := by
  obtain ⟨b, o, rfl, _⟩ := h.2 0 hl
  refine ⟨b, o, rfl, fun i hi => ?_⟩
  obtain ⟨b', o', e, hc⟩ := h.2 i hi
  injection e with e
  injection e with e1 e2
  subst e1; subst e2
  exact hc

/-- A call that hands back v; all else is as it was. -/
def Tells (v : Value) (w : World) (e : Ending) (w' : World) : Prop := e = .returned v ∧ Ext w w'
theorem Hands.tells {v : Value} {w : World} {e : Ending} {w' : World} (h : Hands v w e w') : Tells v w e w' := by
  obtain ⟨he, n, rfl⟩ := h
  exact ⟨he, (Ext.refl _).drewN n⟩
end Go.Proofs.Ytbgpgdbheajekaa

/-
  Floating-point words on plain numbers: the ladder of the magnitudes (rung by rung), what a word is worth, and which of two words comes first. Conditions: none; nothing of the program is named here.
-/
namespace Fl

/-- What a rung is worth, in units of the least one. -/
def S (r : Nat) : Nat := if r < 4503599627370496 then r else (4503599627370496 + r % 4503599627370496) * 2 ^ (r / 4503599627370496 - 1)

theorem S_low {r : Nat} (h : r < 4503599627370496) : S r = r := if_pos h
theorem S_at {L k : Nat} (h1 : 4503599627370496 ≤ k ∨ L = 0) (h2 : k ≤ 9007199254740992) : S (L * 4503599627370496 + k) = k * 2 ^ L := by
  unfold S
  by_cases hk : k < 4503599627370496
  · obtain rfl : L = 0 := by omega
    rw [if_pos (by omega)]
    simp
  · rw [if_neg (by omega)]
    by_cases h3 : k = 9007199254740992
    · have e1 : (L * 4503599627370496 + k) % 4503599627370496 = 0 := by omega
      have e2 : (L * 4503599627370496 + k) / 4503599627370496 - 1 = L + 1 := by omega
      have e3 : k = 4503599627370496 * 2 := by omega
      have e4 : 2 ^ (L + 1) = 2 ^ L * 2 := Nat.pow_succ ..
      rw [e1, e2, e4]
      clear e1 e2 e4
      generalize 2 ^ L = p
      subst e3
      omega
    · have e1 : (L * 4503599627370496 + k) % 4503599627370496 = k - 4503599627370496 := by omega
      have e2 : (L * 4503599627370496 + k) / 4503599627370496 - 1 = L := by omega
      rw [e1, e2, show 4503599627370496 + (k - 4503599627370496) = k by omega]
theorem split (r : Nat) : ∃ L k, r = L * 4503599627370496 + k ∧ (4503599627370496 ≤ k ∨ L = 0) ∧ k < 9007199254740992 := by
  by_cases h : r < 4503599627370496
  · exact ⟨0, r, by omega, .inr rfl, by omega⟩
  · exact ⟨r / 4503599627370496 - 1, r % 4503599627370496 + 4503599627370496, by omega, .inl (by omega), by omega⟩
theorem S_next {L k : Nat} (h1 : 4503599627370496 ≤ k ∨ L = 0) (h2 : k < 9007199254740992) : S (L * 4503599627370496 + k + 1) = (k + 1) * 2 ^ L := by
  rw [Nat.add_assoc]
  exact S_at (by omega) (by omega)
theorem S_step (r : Nat) : S r < S (r + 1) := by
  obtain ⟨L, k, rfl, h1, h2⟩ := split r
  rw [S_next h1 h2, S_at h1 (by omega), Nat.add_mul, Nat.one_mul]
  have := Nat.two_pow_pos L
  omega
theorem S_mono {a b : Nat} (h : a < b) : S a < S b := by
  induction b with
  | zero => omega
  | succ b ih =>
    by_cases e : a = b
    · subst e; exact S_step _
    · exact Nat.lt_trans (ih (by omega)) (S_step b)
theorem S_mono' {a b : Nat} (h : a ≤ b) : S a ≤ S b := by
  by_cases e : a = b
  · subst e; exact Nat.le_refl _
  · exact Nat.le_of_lt (S_mono (by omega))
theorem S_lt {a b : Nat} : S a < S b ↔ a < b := ⟨fun h => Nat.lt_of_not_le fun h2 => by have := S_mono' h2; omega, S_mono⟩
theorem S_inj {a b : Nat} (h : S a = S b) : a = b := by
  rcases Nat.lt_trichotomy a b with h1 | h1 | h1
  · have := S_mono h1; omega
  · exact h1
  · have := S_mono h1; omega
theorem S_zero : S 0 = 0 := rfl
theorem S_pos {r : Nat} : 0 < S r ↔ 0 < r := by
  have := S_lt (a := 0) (b := r)
  rwa [S_zero] at this
/-- Each number of up to 2^53 units of a place has a rung. -/
theorem S_has (k : Nat) : ∀ (e : Nat), k ≤ 9007199254740992 → ∃ r, S r = k * 2 ^ e
  | 0, h => ⟨k, by have := S_at (L := 0) (k := k) (.inr rfl) h; simpa using this⟩
  | e + 1, h => by
    by_cases hk : 4503599627370496 ≤ k
    · exact ⟨_, S_at (L := e + 1) (.inl hk) h⟩
    · obtain ⟨r, hr⟩ := S_more (2 * k) e (by omega)
      exact ⟨r, by rw [hr, Nat.pow_succ]; rw [Nat.mul_comm 2 k, Nat.mul_assoc, Nat.mul_comm 2]⟩
where S_more (k : Nat) : ∀ (e : Nat), k ≤ 9007199254740992 → ∃ r, S r = k * 2 ^ e
  | 0, h => ⟨k, by have := S_at (L := 0) (k := k) (.inr rfl) h; simpa using this⟩
  | e + 1, h => by
    by_cases hk : 4503599627370496 ≤ k
    · exact ⟨_, S_at (L := e + 1) (.inl hk) h⟩
    · obtain ⟨r, hr⟩ := S_more (2 * k) e (by omega)
      exact ⟨r, by rw [hr, Nat.pow_succ]; rw [Nat.mul_comm 2 k, Nat.mul_assoc, Nat.mul_comm 2]⟩

/-- A word's rung, and whether it has a sign. -/
def rung (x : Nat) : Nat := x % 9223372036854775808
def sgn (x : Nat) : Bool := x / 9223372036854775808 % 2 == 1
def IsNan (x : Nat) : Prop := 9218868437227405312 < rung x
instance (x : Nat) : Decidable (IsNan x) := inferInstanceAs (Decidable (_ < _))
/-- What a word is worth, in units of the least number above 0. -/
def v (x : Nat) : Int := if sgn x then -(S (rung x) : Int) else (S (rung x) : Int)
/-- The place of a word among all: no number is behind all else. -/
def K (x : Nat) : Int := if IsNan x then 9218868437227405313 else if sgn x then -1 - (rung x : Int) else (rung x : Int)

theorem rung_word (s : Bool) (r : Nat) (h : r < 9223372036854775808) : rung (Ieee.double.word s r) = r := by
  unfold rung Ieee.Format.word
  have e : Ieee.double.signWeight = 9223372036854775808 := by decide +kernel
  cases s
  · simp; omega
  · simp [e]; omega
theorem sgn_word (s : Bool) (r : Nat) (h : r < 9223372036854775808) : sgn (Ieee.double.word s r) = s := by
  unfold sgn Ieee.Format.word
  have e : Ieee.double.signWeight = 9223372036854775808 := by decide +kernel
  cases s
  · simp; omega
  · simp [e]; omega

/-- A rung's digits, and how far they are shifted. -/
def mg (r : Nat) : Nat := if r < 4503599627370496 then r else 4503599627370496 + r % 4503599627370496
def up (r : Nat) : Nat := r / 4503599627370496 - 1
/-- What is read of a word. -/
theorem read_is (x : Nat) : Ieee.double.read x =
    if rung x < 9218868437227405312 then
      .number (sgn x) (mg (rung x)) (-1074 + (up (rung x) : Int))
    else if rung x = 9218868437227405312 then .infinity (sgn x) else .nan (sgn x) (rung x - 9218868437227405312) := by
  have e : Ieee.double.signWeight = 9223372036854775808 := by decide +kernel
  have e1 : Ieee.double.binade = 4503599627370496 := by decide +kernel
  have e2 : Ieee.double.infRung = 9218868437227405312 := by decide +kernel
  have e3 : Ieee.double.leastPlace = -1074 := by decide +kernel
  unfold Ieee.Format.read mg up
  rw [e, e1, e2, e3]
  show (if rung x < 4503599627370496 then Ieee.Datum.number (sgn x) (rung x) (-1074) else if rung x < 9218868437227405312 then _ else _) = _
  by_cases h1 : rung x < 4503599627370496
  · rw [if_pos h1, if_pos (by omega), if_pos h1, show rung x / 4503599627370496 - 1 = 0 by omega]
    rfl
  · rw [if_neg h1]
    by_cases h2 : rung x < 9218868437227405312
    · rw [if_pos h2, if_pos h2, if_neg h1]
      rfl
    · rw [if_neg h2, if_neg h2]
      rfl

theorem S_parts (r : Nat) : S r = mg r * 2 ^ up r := by
  unfold S mg up
  by_cases h : r < 4503599627370496
  · rw [if_pos h, if_pos h, show r / 4503599627370496 - 1 = 0 by omega, Nat.pow_zero, Nat.mul_one]
  · rw [if_neg h, if_neg h]

theorem signed_scale (s : Bool) (m a b : Nat) : Ieee.signed s m (a + b) = Ieee.signed s m a * (2 ^ b : Nat) := by
  unfold Ieee.signed
  rw [Nat.shiftLeft_eq, Nat.shiftLeft_eq, Nat.pow_add, ← Nat.mul_assoc]
  cases s
  · simp
  · simp [Int.neg_mul]

theorem compare_scale (a b : Int) (k : Nat) (hk : 0 < k) : compare (a * k) (b * k) = compare a b := by
  have hk' : (0 : Int) < k := by omega
  show compareOfLessAndEq _ _ = compareOfLessAndEq _ _
  unfold compareOfLessAndEq
  have h1 : a * k < b * k ↔ a < b := ⟨fun h => Int.lt_of_mul_lt_mul_right h (by omega), fun h => Int.mul_lt_mul_of_pos_right h hk'⟩
  have h2 : a * k = b * k ↔ a = b := ⟨fun h => Int.eq_of_mul_eq_mul_right (by omega) h, fun h => by rw [h]⟩
  simp only [h1, h2]

theorem v_signed (x : Nat) : v x = Ieee.signed (sgn x) (mg (rung x)) (up (rung x)) := by
  unfold v Ieee.signed
  rw [Nat.shiftLeft_eq, ← S_parts]
theorem cmp_lt {a b : Int} (h : a < b) : compare a b = .lt := by
  show compareOfLessAndEq _ _ = _
  unfold compareOfLessAndEq
  rw [if_pos h]
theorem cmp_gt {a b : Int} (h : b < a) : compare a b = .gt := by
  show compareOfLessAndEq _ _ = _
  unfold compareOfLessAndEq
  rw [if_neg (by omega), if_neg (by omega)]
theorem cmp_eq (a : Int) : compare a a = .eq := by
  show compareOfLessAndEq _ _ = _
  unfold compareOfLessAndEq
  rw [if_neg (by omega), if_pos rfl]
theorem v_lt_inf {x y : Nat} (hx : rung x < rung y) : v x < (S (rung y) : Int) ∧ -(S (rung y) : Int) < v x := by
  have := S_mono hx
  unfold v
  split <;> omega

/-- How two words stand to each other. -/
theorem order_is (x y : Nat) : Ieee.double.order x y = if IsNan x ∨ IsNan y then none else some (compare (v x) (v y)) := by
  unfold Ieee.Format.order
  rw [read_is, read_is]
  have hz : ∀ s : Nat, (0 : Int) ≤ S s := fun s => Int.natCast_nonneg _
  by_cases hn : IsNan x ∨ IsNan y
  · rw [if_pos hn]
    unfold IsNan at hn
    rcases hn with h | h
    · rw [if_neg (show ¬ rung x < _ by omega), if_neg (show ¬ rung x = _ by omega)]
      rfl
    · rw [if_neg (show ¬ rung y < _ by omega), if_neg (show ¬ rung y = _ by omega)]
      split
      · rfl
      · split <;> rfl
  rw [if_neg hn]
  have hnx : rung x ≤ 9218868437227405312 := by unfold IsNan at hn; omega
  have hny : rung y ≤ 9218868437227405312 := by unfold IsNan at hn; omega
  by_cases h1 : rung x < 9218868437227405312
  · rw [if_pos h1]
    by_cases h2 : rung y < 9218868437227405312
    · rw [if_pos h2, v_signed, v_signed]
      generalize up (rung x) = i
      generalize up (rung y) = j
      generalize mg (rung x) = m
      generalize mg (rung y) = n
      have e1 : i = (-1074 + (i : Int) - min (-1074 + (i : Int)) (-1074 + (j : Int))).toNat + min i j := by omega
      have e2 : j = (-1074 + (j : Int) - min (-1074 + (i : Int)) (-1074 + (j : Int))).toNat + min i j := by omega
      have e3 := signed_scale (sgn x) m (-1074 + (i : Int) - min (-1074 + (i : Int)) (-1074 + (j : Int))).toNat (min i j)
      have e4 := signed_scale (sgn y) n (-1074 + (j : Int) - min (-1074 + (i : Int)) (-1074 + (j : Int))).toNat (min i j)
      rw [← e1] at e3
      rw [← e2] at e4
      rw [e3, e4, compare_scale _ _ _ (Nat.two_pow_pos _)]
      rfl
    · have h3 : rung y = 9218868437227405312 := by omega
      rw [if_neg h2, if_pos h3]
      have hs := v_lt_inf (show rung x < rung y by omega)
      show some (if sgn y then Ordering.gt else Ordering.lt) = _
      rw [show v y = if sgn y then -(S (rung y) : Int) else (S (rung y) : Int) from rfl]
      cases sgn y
      · simp only [Bool.false_eq_true, if_false, cmp_lt hs.1]
      · simp only [if_true, cmp_gt hs.2]
  · have h4 : rung x = 9218868437227405312 := by omega
    rw [if_neg h1, if_pos h4]
    by_cases h2 : rung y < 9218868437227405312
    · rw [if_pos h2]
      have hs := v_lt_inf (show rung y < rung x by omega)
      show some (if sgn x then Ordering.lt else Ordering.gt) = _
      rw [show v x = if sgn x then -(S (rung x) : Int) else (S (rung x) : Int) from rfl]
      cases sgn x
      · simp only [Bool.false_eq_true, if_false, cmp_gt hs.1]
      · simp only [if_true, cmp_lt hs.2]
    · have h3 : rung y = 9218868437227405312 := by omega
      rw [if_neg h2, if_pos h3]
      have hs : (0 : Int) < (S 9218868437227405312 : Int) := by
        have := S_mono (show 0 < 9218868437227405312 by omega)
        rw [S_zero] at this
        omega
      show some (compare (sgn y).toNat (sgn x).toNat) = _
      unfold v
      rw [h3, h4]
      generalize (S 9218868437227405312 : Int) = s at hs
      cases sgn x <;> cases sgn y
      · simp only [Bool.false_eq_true, if_false, cmp_eq]; rfl
      · simp only [Bool.false_eq_true, if_false, if_true, cmp_gt (show -s < s by omega)]; rfl
      · simp only [Bool.false_eq_true, if_false, if_true, cmp_lt (show -s < s by omega)]; rfl
      · simp only [if_true, cmp_eq]; rfl
end Fl

/-
  Rounding on plain numbers: which rung is the nearest one to a quotient; that it is one, that a greater quotient has no lesser one, that a number that has a rung gets it; and that Ieee's words are the nearest ones. Conditions: none; nothing of the program is named here.
-/
namespace Fl

/-- r is the rung next to p / q, of two that are as near the even one. -/
structure RN (p q r : Nat) : Prop where
  lo : 0 < r → q * (S r + S (r - 1)) ≤ 2 * p
  lo' : 0 < r → q * (S r + S (r - 1)) = 2 * p → r % 2 = 0
  hi : 2 * p ≤ q * (S r + S (r + 1))
  hi' : 2 * p = q * (S r + S (r + 1)) → r % 2 = 0

theorem RN.mono {p q r p' q' r' : Nat} (h : RN p q r) (h' : RN p' q' r') (hq : 0 < q) (hq' : 0 < q') (hle : p * q' ≤ p' * q) : r ≤ r' := by
  apply Nat.le_of_not_lt
  intro hlt
  have a1 := h.lo (by omega)
  have a2 := h'.hi
  have s1 := S_mono' (show r' ≤ r - 1 by omega)
  have s2 := S_mono' (show r' + 1 ≤ r by omega)
  have m1 := Nat.mul_le_mul_left q' a1
  have m2 := Nat.mul_le_mul_left q a2
  have m3 : q' * (q * (S r + S (r - 1))) ≤ q' * (q * (S r' + S (r' + 1))) := by
    have e1 : q' * (2 * p) = 2 * (p * q') := by rw [Nat.mul_left_comm, Nat.mul_comm q']
    have e2 : q * (2 * p') = 2 * (p' * q) := by rw [Nat.mul_left_comm, Nat.mul_comm q]
    have e3 : q' * (q * (S r' + S (r' + 1))) = q * (q' * (S r' + S (r' + 1))) := Nat.mul_left_comm ..
    omega
  have m4 : S r + S (r - 1) ≤ S r' + S (r' + 1) := Nat.le_of_mul_le_mul_left (Nat.le_of_mul_le_mul_left m3 hq') hq
  have m5 : S r + S (r - 1) = S r' + S (r' + 1) := by omega
  have e6 : r = r' + 1 := S_inj (by omega)
  have e1 : q' * (2 * p) = 2 * (p * q') := by rw [Nat.mul_left_comm, Nat.mul_comm q']
  have e2 : q * (2 * p') = 2 * (p' * q) := by rw [Nat.mul_left_comm, Nat.mul_comm q]
  have e3 : q' * (q * (S r' + S (r' + 1))) = q * (q' * (S r' + S (r' + 1))) := Nat.mul_left_comm ..
  rw [m5] at m1 a1
  have t1 : q' * (q * (S r' + S (r' + 1))) = q' * (2 * p) := by omega
  have t2 : q * (2 * p') = q * (q' * (S r' + S (r' + 1))) := by omega
  have u1 := h.lo' (by omega) (by rw [m5]; exact Nat.eq_of_mul_eq_mul_left hq' t1)
  have u2 := h'.hi' (Nat.eq_of_mul_eq_mul_left hq t2)
  omega
theorem RN.one {p q r p' q' r' : Nat} (h : RN p q r) (h' : RN p' q' r') (hq : 0 < q) (hq' : 0 < q') (he : p * q' = p' * q) : r = r' :=
  Nat.le_antisymm (h.mono h' hq hq' (Nat.le_of_eq he)) (h'.mono h hq' hq (Nat.le_of_eq he.symm))
theorem RN.exact (r : Nat) : RN (S r) 1 r where
  lo := fun h => by have := S_mono (show r - 1 < r by omega); omega
  lo' := fun h e => by have := S_mono (show r - 1 < r by omega); omega
  hi := by have := S_step r; omega
  hi' := fun e => by have := S_step r; omega
theorem RN.le_of {p q r r' : Nat} (h : RN p q r) (hq : 0 < q) (hle : p ≤ S r' * q) : r ≤ r' :=
  h.mono (RN.exact r') hq (by omega) (by rw [Nat.mul_one]; exact hle)
theorem RN.ge_of {p q r r' : Nat} (h : RN p q r) (hq : 0 < q) (hle : S r' * q ≤ p) : r' ≤ r :=
  (RN.exact r').mono h (by omega) hq (by rw [Nat.mul_one]; exact hle)
theorem RN.eq_of {p q r r' : Nat} (h : RN p q r) (hq : 0 < q) (he : p = S r' * q) : r = r' :=
  Nat.le_antisymm (h.le_of hq (Nat.le_of_eq he)) (h.ge_of hq (Nat.le_of_eq he.symm))
theorem RN.zero (q : Nat) : RN 0 q 0 where
  lo := fun h => absurd h (by omega)
  lo' := fun h => absurd h (by omega)
  hi := by rw [Nat.mul_zero]; exact Nat.zero_le _
  hi' := fun _ => rfl

/-- What is cut to the nearest digit, of a number X / Y that is told from each half digit as n / G is. -/
structure Cut (X Y k : Nat) : Prop where
  lo : 2 * k * Y ≤ 2 * X + Y
  lo' : 2 * k * Y = 2 * X + Y → k % 2 = 0
  hi : 2 * X ≤ (2 * k + 1) * Y
  hi' : 2 * X = (2 * k + 1) * Y → k % 2 = 0

/-- From the digits that are kept to the rung. -/
theorem Cut.rn {X Y L k : Nat} (h : Cut X Y k) (h1 : 4503599627370496 * Y ≤ X ∨ L = 0) (h2 : X < 9007199254740992 * Y) (hY : 0 < Y) : RN (X * 2 ^ L) Y (L * 4503599627370496 + k) := by
  have hk2 : k ≤ 9007199254740992 := by
    apply Nat.le_of_not_lt
    intro hlt
    have a := Nat.mul_le_mul_right Y (show 2 * 9007199254740993 ≤ 2 * k by omega)
    have := h.lo
    omega
  have hk1 : 4503599627370496 ≤ k ∨ L = 0 := by
    rcases h1 with h1 | h1
    · left
      apply Nat.le_of_not_lt
      intro hlt
      have a := Nat.mul_le_mul_right Y (show 2 * k + 1 ≤ 2 * 4503599627370495 + 1 by omega)
      have := h.hi
      omega
    · exact .inr h1
  have hS := S_at hk1 hk2
  have hpow := Nat.two_pow_pos L
  have par : (L * 4503599627370496 + k) % 2 = k % 2 := by omega
  have mulL : ∀ a b : Nat, a * 2 ^ L ≤ b * 2 ^ L ↔ a ≤ b := fun a b => ⟨fun h => Nat.le_of_mul_le_mul_right h hpow, fun h => Nat.mul_le_mul_right _ h⟩
  -- the rung below
  have low : 0 < L * 4503599627370496 + k → Y * (S (L * 4503599627370496 + k) + S (L * 4503599627370496 + k - 1)) ≤ 2 * (X * 2 ^ L) ∧ (Y * (S (L * 4503599627370496 + k) + S (L * 4503599627370496 + k - 1)) = 2 * (X * 2 ^ L) → k % 2 = 0) := by
    intro hpos
    by_cases hc : 4503599627370496 < k ∨ L = 0
    · have hS1 : S (L * 4503599627370496 + k - 1) = (k - 1) * 2 ^ L := by
        have e : L * 4503599627370496 + k - 1 = L * 4503599627370496 + (k - 1) := by omega
        rw [e]
        exact S_at (by omega) (by omega)
      rw [hS, hS1, ← Nat.add_mul]
      have e1 : Y * ((k + (k - 1)) * 2 ^ L) = (2 * k * Y - Y) * 2 ^ L := by
        rw [← Nat.mul_assoc]
        congr 1
        rw [Nat.mul_comm Y, show k + (k - 1) = 2 * k - 1 by omega, Nat.sub_mul, Nat.one_mul]
      have e2 : 2 * (X * 2 ^ L) = (2 * X) * 2 ^ L := by rw [Nat.mul_assoc]
      rw [e1, e2]
      have hge : Y ≤ 2 * k * Y := by
        have := Nat.mul_le_mul_right Y (show 1 ≤ 2 * k by omega)
        omega
      refine ⟨(mulL _ _).2 (by have := h.lo; omega), fun e => h.lo' ?_⟩
      have := Nat.eq_of_mul_eq_mul_right hpow e
      omega
    · have hk : k = 4503599627370496 := by omega
      obtain ⟨l, rfl⟩ : ∃ l, L = l + 1 := ⟨L - 1, by omega⟩
      have hX : 4503599627370496 * Y ≤ X := by omega
      have h3 := S_mono (show (l + 1) * 4503599627370496 + k - 1 < (l + 1) * 4503599627370496 + k by omega)
      rw [hS] at h3 ⊢
      have e2 : 2 * (X * 2 ^ (l + 1)) = X * 2 ^ (l + 1) + X * 2 ^ (l + 1) := by omega
      have e3 : k * 2 ^ (l + 1) * Y ≤ X * 2 ^ (l + 1) := by
        rw [Nat.mul_right_comm, hk]
        exact Nat.mul_le_mul_right _ hX
      have e4 := Nat.mul_lt_mul_of_pos_left h3 hY
      rw [Nat.mul_add, e2]
      rw [Nat.mul_comm Y (k * 2 ^ (l + 1))] at e4 ⊢
      exact ⟨by omega, fun e => by omega⟩
  have hig : 2 * (X * 2 ^ L) ≤ Y * (S (L * 4503599627370496 + k) + S (L * 4503599627370496 + k + 1)) ∧ (2 * (X * 2 ^ L) = Y * (S (L * 4503599627370496 + k) + S (L * 4503599627370496 + k + 1)) → k % 2 = 0) := by
    by_cases hc : k < 9007199254740992
    · rw [hS, S_next hk1 hc, ← Nat.add_mul]
      have e1 : Y * ((k + (k + 1)) * 2 ^ L) = ((2 * k + 1) * Y) * 2 ^ L := by
        rw [← Nat.mul_assoc]
        congr 1
        rw [Nat.mul_comm Y, show k + (k + 1) = 2 * k + 1 by omega]
      have e2 : 2 * (X * 2 ^ L) = (2 * X) * 2 ^ L := by rw [Nat.mul_assoc]
      rw [e1, e2]
      exact ⟨(mulL _ _).2 h.hi, fun e => h.hi' (Nat.eq_of_mul_eq_mul_right hpow e)⟩
    · have hk : k = 9007199254740992 := by omega
      have h3 := S_mono (show L * 4503599627370496 + k < L * 4503599627370496 + k + 1 by omega)
      rw [hS] at h3 ⊢
      have e2 : 2 * (X * 2 ^ L) = X * 2 ^ L + X * 2 ^ L := by omega
      have e3 : X * 2 ^ L ≤ k * 2 ^ L * Y := by
        rw [Nat.mul_right_comm, hk]
        exact Nat.mul_le_mul_right _ (Nat.le_of_lt h2)
      have e4 := Nat.mul_lt_mul_of_pos_left h3 hY
      rw [Nat.mul_add, e2]
      rw [Nat.mul_comm Y (k * 2 ^ L)] at e4 ⊢
      exact ⟨by omega, fun e => by omega⟩
  exact ⟨fun hp => (low hp).1, fun hp e => by rw [par]; exact (low hp).2 e, hig.1, fun e => by rw [par]; exact hig.2 e⟩

/-- Ieee's cut, of a number that is handed over with all its digits. -/
theorem cut_even (s : Bool) (n d : Nat) : Cut n (2 ^ d) (Ieee.Toward.even.cut s n d) := by
  unfold Ieee.Toward.cut
  dsimp only
  by_cases hd : d ≤ n.log2 + 2
  · rw [Nat.min_eq_left hd, Nat.shiftLeft_eq, Nat.one_mul]
    have hG := Nat.two_pow_pos d
    generalize 2 ^ d = G at hG
    have h1 := Nat.div_add_mod n G
    have h2 := Nat.mod_lt n hG
    generalize n / G = q at h1 ⊢
    generalize n % G = t at h1 h2 ⊢
    have e1 : ∀ x, 2 * x * G = 2 * (x * G) := fun x => Nat.mul_assoc ..
    have e2 : ∀ x, (2 * x + 1) * G = 2 * (x * G) + G := fun x => by rw [Nat.add_mul, e1, Nat.one_mul]
    have e3 : (q + 1) * G = q * G + G := by rw [Nat.add_mul, Nat.one_mul]
    rw [Nat.mul_comm] at h1
    by_cases c1 : G < 2 * t
    · rw [decide_eq_true c1, Bool.true_or]
      show Cut n G (q + 1)
      exact ⟨by rw [e1]; omega, fun e => by rw [e1] at e; omega, by rw [e2]; omega, fun e => by rw [e2] at e; omega⟩
    · rw [decide_eq_false c1, Bool.false_or]
      by_cases c2 : G = 2 * t
      · by_cases c3 : q % 2 = 1
        · rw [show (G == 2 * t && q % 2 == 1) = true by simp [c2, c3]]
          show Cut n G (q + 1)
          exact ⟨by rw [e1]; omega, fun e => by omega, by rw [e2]; omega, fun e => by omega⟩
        · rw [show (G == 2 * t && q % 2 == 1) = false by simp [c3]]
          show Cut n G q
          exact ⟨by rw [e1]; omega, fun e => by omega, by rw [e2]; omega, fun e => by omega⟩
      · rw [show (G == 2 * t && q % 2 == 1) = false by simp [c2]]
        show Cut n G q
        exact ⟨by rw [e1]; omega, fun e => by rw [e1] at e; omega, by rw [e2]; omega, fun e => by rw [e2] at e; omega⟩
  · rw [Nat.min_eq_right (by omega), Nat.shiftLeft_eq, Nat.one_mul]
    have hl : n < 2 ^ (n.log2 + 1) := Nat.lt_log2_self
    have hG : 2 * n < 2 ^ (n.log2 + 2) := by rw [Nat.pow_succ]; omega
    have hD : 2 * n < 2 ^ d := Nat.lt_of_lt_of_le hG (Nat.pow_le_pow_right (by omega) (by omega))
    generalize 2 ^ (n.log2 + 2) = G at hG
    generalize 2 ^ d = D at hD
    rw [Nat.div_eq_of_lt (by omega), Nat.mod_eq_of_lt (by omega), decide_eq_false (show ¬ G < 2 * n by omega), Bool.false_or, show (G == 2 * n && 0 % 2 == 1) = false by simp]
    show Cut n D 0
    exact ⟨by omega, fun _ => rfl, by omega, fun _ => rfl⟩
end Fl

/-
  Ieee's nearest word is the nearest one: of a number with all its digits, and of a quotient of which only the first digits are kept and whether anything is left. Conditions: none; nothing of the program is named here.
-/
namespace Fl

theorem RN.scale {p q r p' q' : Nat} (h : RN p q r) (hq : 0 < q) (hq' : 0 < q') (he : p * q' = p' * q) : RN p' q' r := by
  have e : ∀ T, q * (q' * T) = q' * (q * T) := fun T => Nat.mul_left_comm ..
  have e2 : q * (2 * p') = q' * (2 * p) := by
    rw [Nat.mul_left_comm, Nat.mul_comm q p', ← he, Nat.mul_left_comm q', Nat.mul_comm q' p]
  exact ⟨fun hr => Nat.le_of_mul_le_mul_left (by rw [e, e2]; exact Nat.mul_le_mul_left _ (h.lo hr)) hq,
      fun hr ee => h.lo' hr (Nat.eq_of_mul_eq_mul_left hq' (by rw [← e, ee, e2])),
      Nat.le_of_mul_le_mul_left (by rw [e2, e]; exact Nat.mul_le_mul_left _ h.hi) hq,
      fun ee => h.hi' (Nat.eq_of_mul_eq_mul_left hq' (by rw [← e2, ee, e]))⟩

theorem near_parts (neg : Bool) (mag : Nat) (place : Int) (hm : 0 < mag) : ∃ L kept : Nat, Ieee.double.nearest neg mag place = Ieee.double.word neg (min (L * 4503599627370496 + kept) 9218868437227405312) ∧
    place + mag.log2 - 52 ≤ (L : Int) - 1074 ∧ Cut (mag * 2 ^ (place - ((L : Int) - 1074)).toNat) (2 ^ (((L : Int) - 1074) - place).toNat) kept ∧
    (4503599627370496 * 2 ^ (((L : Int) - 1074) - place).toNat ≤ mag * 2 ^ (place - ((L : Int) - 1074)).toNat ∨ L = 0) ∧
    mag * 2 ^ (place - ((L : Int) - 1074)).toNat < 9007199254740992 * 2 ^ (((L : Int) - 1074) - place).toNat := by
  have e1 : Ieee.double.binade = 4503599627370496 := by decide +kernel
  have e2 : Ieee.double.infRung = 9218868437227405312 := by decide +kernel
  have e3 : Ieee.double.leastPlace = -1074 := by decide +kernel
  obtain ⟨L, hL⟩ : ∃ L : Nat, max (place + mag.log2 - 52) (-1074) = (L : Int) - 1074 := ⟨(max (place + mag.log2 - 52) (-1074) + 1074).toNat, by omega⟩
  refine ⟨L, Ieee.Toward.even.cut neg (mag <<< (place - ((L : Int) - 1074)).toNat) (((L : Int) - 1074) - place).toNat, ?_, by omega, ?_, ?_, ?_⟩
  · unfold Ieee.Format.nearest
    rw [if_neg (by omega), e1, e2, e3]
    dsimp only
    rw [show (Ieee.double.fractionBits : Int) = 52 from rfl, hL, show ((L : Int) - 1074 - -1074).toNat = L by omega]
  · have h := cut_even neg (mag <<< (place - ((L : Int) - 1074)).toNat) (((L : Int) - 1074) - place).toNat
    rwa [Nat.shiftLeft_eq] at h ⊢
  · by_cases h0 : L = 0
    · exact .inr h0
    · left
      have h1 : 2 ^ mag.log2 ≤ mag := Nat.log2_self_le (by omega)
      have h2 := Nat.mul_le_mul_right (2 ^ (place - ((L : Int) - 1074)).toNat) h1
      rw [← Nat.pow_add] at h2
      have h3 : mag.log2 + (place - ((L : Int) - 1074)).toNat = 52 + (((L : Int) - 1074) - place).toNat := by omega
      rw [h3, Nat.pow_add] at h2
      exact h2
  · have h1 : mag < 2 ^ (mag.log2 + 1) := Nat.lt_log2_self
    have h2 := Nat.mul_lt_mul_of_pos_right h1 (Nat.two_pow_pos (place - ((L : Int) - 1074)).toNat)
    rw [← Nat.pow_add] at h2
    have h3 : 2 ^ (mag.log2 + 1 + (place - ((L : Int) - 1074)).toNat) ≤ 2 ^ (53 + (((L : Int) - 1074) - place).toNat) := Nat.pow_le_pow_right (by omega) (by omega)
    rw [Nat.pow_add 2 53] at h3
    exact Nat.lt_of_lt_of_le h2 h3
/-- A number with all its digits. -/
theorem near_is (neg : Bool) (mag : Nat) (place : Int) : ∃ R, Ieee.double.nearest neg mag place = Ieee.double.word neg (min R 9218868437227405312) ∧ RN (mag * 2 ^ (place + 1074).toNat) (2 ^ (-1074 - place).toNat) R := by
  by_cases hm : mag = 0
  · subst hm
    refine ⟨0, ?_, by rw [Nat.zero_mul]; exact RN.zero _⟩
    unfold Ieee.Format.nearest
    rw [if_pos rfl]
    rfl
  · obtain ⟨L, kept, h1, h2, h3, h4, h5⟩ := near_parts neg mag place (by omega)
    refine ⟨_, h1, (h3.rn h4 h5 (Nat.two_pow_pos _)).scale (Nat.two_pow_pos _) (Nat.two_pow_pos _) ?_⟩
    rw [Nat.mul_assoc, Nat.mul_assoc, Nat.mul_assoc, ← Nat.pow_add, ← Nat.pow_add, ← Nat.pow_add]
    congr 2
    omega
/-- A quotient: its first digits, and whether anything is left. -/
theorem near_quot (neg : Bool) (D n : Nat) (e : Int) (hn : 0 < n) (hbig : 9007199254740992 ≤ D / n) :
    ∃ R, Ieee.double.nearest neg (2 * (D / n) + (D % n != 0).toNat) (e - 1) = Ieee.double.word neg (min R 9218868437227405312) ∧ RN (D * 2 ^ (e + 1074).toNat) (n * 2 ^ (-1074 - e).toNat) R := by
  have hDn := Nat.div_add_mod D n
  have hlt := Nat.mod_lt D hn
  obtain ⟨s, hs, hs1, hs0⟩ : ∃ s, (D % n != 0).toNat = s ∧ s ≤ 1 ∧ (s = 0 ↔ D % n = 0) := by
    by_cases h : D % n = 0
    · exact ⟨0, by simp [h], by omega, by simp [h]⟩
    · exact ⟨1, by simp [h], by omega, by simp [h]⟩
  rw [hs]
  obtain ⟨L, kept, h1, h2, h3, h4, h5⟩ := near_parts neg (2 * (D / n) + s) (e - 1) (by omega)
  have hlog : 54 ≤ (2 * (D / n) + s).log2 := (Nat.le_log2 (by omega)).2 (by omega)
  obtain ⟨H, hH⟩ : ∃ H : Nat, (((L : Int) - 1074) - (e - 1)).toNat = H + 2 := ⟨(((L : Int) - 1074) - (e - 1)).toNat - 2, by omega⟩
  rw [show (e - 1 - ((L : Int) - 1074)).toNat = 0 by omega, Nat.pow_zero, Nat.mul_one] at h3 h4 h5
  rw [hH] at h3 h4 h5
  have hP : 2 ^ (H + 2) = 2 ^ H * 4 := Nat.pow_add ..
  rw [hP] at h3 h4 h5
  have hp1 : 2 ^ (H + 1) = 2 ^ H * 2 := Nat.pow_succ ..
  have key : Cut D (n * 2 ^ (H + 1)) kept ∧ (4503599627370496 * (n * 2 ^ (H + 1)) ≤ D ∨ L = 0) ∧ D < 9007199254740992 * (n * 2 ^ (H + 1)) := by
    rw [hp1]
    have hW := Nat.two_pow_pos H
    generalize 2 ^ H = W at *
    generalize D / n = t at *
    generalize D % n = u at *
    have m1 : ∀ a : Nat, a ≤ t → n * a ≤ D := fun a ha => by have := Nat.mul_le_mul_left n ha; omega
    have m2 : ∀ a : Nat, t + 1 ≤ a → D < n * a := fun a ha => by have := Nat.mul_le_mul_left n ha; rw [Nat.mul_add, Nat.mul_one] at this; omega
    have q1 : ∀ a, 2 * a * (W * 4) = 4 * (2 * (a * W)) := fun a => by rw [← Nat.mul_assoc, Nat.mul_right_comm _ W 4, Nat.mul_assoc 2 a 4, Nat.mul_comm a 4, ← Nat.mul_assoc, Nat.mul_assoc, Nat.mul_assoc]; omega
    have q2 : ∀ a, a * (n * (W * 2)) = 2 * (n * (a * W)) := fun a => by rw [← Nat.mul_assoc n, ← Nat.mul_assoc a, Nat.mul_comm _ 2, Nat.mul_left_comm a n W]
    have q3 : ∀ a, (2 * a + 1) * (W * 4) = 4 * (2 * (a * W)) + W * 4 := fun a => by rw [Nat.add_mul, q1, Nat.one_mul]
    have q4 : n * (W * 2) = 2 * (n * W) := by rw [← Nat.mul_assoc, Nat.mul_comm]
    have q5 : ∀ a, (2 * a + 1) * (n * (W * 2)) = 2 * (n * (2 * (a * W) + W)) := fun a => by rw [q2, Nat.add_mul, Nat.one_mul, Nat.mul_assoc]
    have q6 : ∀ a, 2 * a * (n * (W * 2)) = 2 * (n * (2 * (a * W))) := fun a => by rw [q2, Nat.mul_assoc]
    have l1 := h3.lo
    have l2 := h3.lo'
    have l3 := h3.hi
    have l4 := h3.hi'
    rw [q1] at l1 l2
    rw [q3] at l3 l4
    have h4' : 4503599627370496 * W * 4 ≤ 2 * t + s ∨ L = 0 := by rw [Nat.mul_assoc]; exact h4
    have h5' : 2 * t + s < 9007199254740992 * W * 4 := by rw [Nat.mul_assoc]; exact h5
    have sf : (2 * (n * (2 * (kept * W))) ≤ 2 * D + 2 * (n * W)) → (2 * (n * (2 * (kept * W))) = 2 * D + 2 * (n * W) → kept % 2 = 0) → (2 * D ≤ 2 * (n * (2 * (kept * W) + W))) → (2 * D = 2 * (n * (2 * (kept * W) + W)) → kept % 2 = 0) → (2 * (n * (4503599627370496 * W)) ≤ D ∨ L = 0) → D < 2 * (n * (9007199254740992 * W)) →
        Cut D (n * (W * 2)) kept ∧ (4503599627370496 * (n * (W * 2)) ≤ D ∨ L = 0) ∧ D < 9007199254740992 * (n * (W * 2)) := fun a b c d f g =>
      ⟨⟨by rw [q6, q4]; exact a, by rw [q6, q4]; exact b, by rw [q5]; exact c, by rw [q5]; exact d⟩, by rw [q2]; exact f, by rw [q2]; exact g⟩
    refine sf ?_ ?_ ?_ ?_ ?_ ?_ <;> clear sf
    all_goals clear h1 h2 h3 h4 h5 hH hP hp1 q1 q2 q3 q4 q5 q6 hlog hs hbig
    all_goals have d1 : ∀ a b : Nat, n * (a + b) = n * a + n * b := fun a b => Nat.mul_add ..
    all_goals have d2 : ∀ a : Nat, n * (2 * a) = 2 * (n * a) := fun a => Nat.mul_left_comm ..
    all_goals generalize kept * W = kw at *
    all_goals generalize 4503599627370496 * W = bw at *
    all_goals generalize 9007199254740992 * W = cw at *
    · have a := Nat.mul_le_mul_left n (show 2 * kw ≤ t + W by omega)
      rw [d1] at a
      omega
    · intro ee
      have a := Nat.mul_le_mul_left n (show 2 * kw ≤ t + W by omega)
      rw [d1] at a
      have hu : s = 0 := hs0.2 (by omega)
      have b : n * (2 * kw) = n * (t + W) := by rw [d1]; omega
      have c := Nat.eq_of_mul_eq_mul_left hn b
      exact l2 (by omega)
    · by_cases h0 : s = 0
      · have a := Nat.mul_le_mul_left n (show t ≤ 2 * kw + W by omega)
        have := hs0.1 h0
        omega
      · have a := m2 (2 * kw + W) (by omega)
        omega
    · intro ee
      by_cases h0 : s = 0
      · have := hs0.1 h0
        have c := Nat.eq_of_mul_eq_mul_left hn (show n * t = n * (2 * kw + W) by omega)
        exact l4 (by omega)
      · have a := m2 (2 * kw + W) (by omega)
        omega
    · rcases h4' with h4' | h4'
      · left
        have a := m1 (2 * bw) (by omega)
        rw [d2] at a
        exact a
      · exact .inr h4'
    · have a := m2 (2 * cw) (by omega)
      rw [d2] at a
      exact a
  obtain ⟨k1, k2, k3⟩ := key
  refine ⟨_, h1, (k1.rn k2 k3 (Nat.mul_pos hn (Nat.two_pow_pos _))).scale (Nat.mul_pos hn (Nat.two_pow_pos _)) (Nat.mul_pos hn (Nat.two_pow_pos _)) ?_⟩
  rw [show D * 2 ^ L * (n * 2 ^ (-1074 - e).toNat) = D * n * (2 ^ L * 2 ^ (-1074 - e).toNat) by rw [Nat.mul_assoc, Nat.mul_left_comm _ n, ← Nat.mul_assoc], show D * 2 ^ (e + 1074).toNat * (n * 2 ^ (H + 1)) = D * n * (2 ^ (e + 1074).toNat * 2 ^ (H + 1)) by rw [Nat.mul_assoc, Nat.mul_left_comm _ n, ← Nat.mul_assoc], ← Nat.pow_add, ← Nat.pow_add]
  congr 2
  omega
end Fl

/-
  What floating-point operations give, on plain numbers: the order's tests, a whole number as a float and back, differences that are exact, quotients. Conditions: none; nothing of the program is named here.
-/
namespace Fl
open Go

/-- One, in units of the least number above 0. -/
def pw2 (n : Nat) : Nat := 2 ^ n
def U : Nat := pw2 1074
theorem pw2_dvd {n L : Nat} (h : L ≤ n) : pw2 n = 2 ^ (n - L) * 2 ^ L := by
  unfold pw2
  rw [← Nat.pow_add]
  congr 1
  omega
theorem pw2_up {n L : Nat} (h : n ≤ L) : 2 ^ L = 2 ^ (L - n) * pw2 n := by
  unfold pw2
  rw [← Nat.pow_add]
  congr 1
  omega
theorem pw2_pos (n : Nat) : 0 < pw2 n := Nat.two_pow_pos _
theorem U_pos : 0 < U := pw2_pos _
theorem U_dvd {L : Nat} (h : L ≤ 1074) : U = 2 ^ (1074 - L) * 2 ^ L := pw2_dvd h
theorem U_up {L : Nat} (h : 1074 ≤ L) : 2 ^ L = 2 ^ (L - 1074) * U := pw2_up h
theorem pw2_even (n : Nat) : ∃ h, pw2 (n + 1) = 2 * h ∧ 0 < h := ⟨2 ^ n, by unfold pw2; rw [Nat.pow_succ, Nat.mul_comm], Nat.two_pow_pos _⟩
theorem U_even : ∃ h, U = 2 * h ∧ 0 < h := pw2_even 1073
attribute [irreducible] U

theorem lt_is (x y : Nat) : (FloatKind.f64.format.order x y == some Ordering.lt) = decide (¬ IsNan x ∧ ¬ IsNan y ∧ v x < v y) := by
  show (Ieee.double.order x y == some Ordering.lt) = _
  rw [order_is]
  by_cases h : IsNan x ∨ IsNan y
  · rw [if_pos h, decide_eq_false (fun hh => by rcases h with h | h; exact hh.1 h; exact hh.2.1 h)]
    rfl
  · rw [if_neg h]
    rcases Int.lt_trichotomy (v x) (v y) with h1 | h1 | h1
    · rw [cmp_lt h1, decide_eq_true ⟨fun a => h (.inl a), fun a => h (.inr a), h1⟩]; rfl
    · rw [h1, cmp_eq, decide_eq_false (fun hh => by omega)]; rfl
    · rw [cmp_gt h1, decide_eq_false (fun hh => by omega)]; rfl
theorem gt_is (x y : Nat) : (FloatKind.f64.format.order x y == some Ordering.gt) = decide (¬ IsNan x ∧ ¬ IsNan y ∧ v y < v x) := by
  show (Ieee.double.order x y == some Ordering.gt) = _
  rw [order_is]
  by_cases h : IsNan x ∨ IsNan y
  · rw [if_pos h, decide_eq_false (fun hh => by rcases h with h | h; exact hh.1 h; exact hh.2.1 h)]
    rfl
  · rw [if_neg h]
    rcases Int.lt_trichotomy (v x) (v y) with h1 | h1 | h1
    · rw [cmp_lt h1, decide_eq_false (fun hh => by omega)]; rfl
    · rw [h1, cmp_eq, decide_eq_false (fun hh => by omega)]; rfl
    · rw [cmp_gt h1, decide_eq_true ⟨fun a => h (.inl a), fun a => h (.inr a), h1⟩]; rfl
theorem eq_is (x y : Nat) : (FloatKind.f64.format.order x y == some Ordering.eq) = decide (¬ IsNan x ∧ ¬ IsNan y ∧ v x = v y) := by
  show (Ieee.double.order x y == some Ordering.eq) = _
  rw [order_is]
  by_cases h : IsNan x ∨ IsNan y
  · rw [if_pos h, decide_eq_false (fun hh => by rcases h with h | h; exact hh.1 h; exact hh.2.1 h)]
    rfl
  · rw [if_neg h]
    rcases Int.lt_trichotomy (v x) (v y) with h1 | h1 | h1
    · rw [cmp_lt h1, decide_eq_false (fun hh => by omega)]; rfl
    · rw [h1, cmp_eq, decide_eq_true ⟨fun a => h (.inl a), fun a => h (.inr a), rfl⟩]; rfl
    · rw [cmp_gt h1, decide_eq_false (fun hh => by omega)]; rfl
theorem ne_is (x y : Nat) : (FloatKind.f64.format.order x y != some Ordering.eq) = !decide (¬ IsNan x ∧ ¬ IsNan y ∧ v x = v y) := by
  rw [← eq_is]
  rfl
theorem nan_is (x : Nat) : (FloatKind.f64.format.order x x != some Ordering.eq) = decide (IsNan x) := by
  rw [ne_is]
  by_cases h : IsNan x
  · rw [decide_eq_true h, decide_eq_false (fun a => a.1 h)]; rfl
  · rw [decide_eq_false h, decide_eq_true ⟨h, h, rfl⟩]; rfl
theorem nan_self (x : Nat) : (FloatKind.f64.format.order x x == some Ordering.eq) = !decide (IsNan x) := by
  rw [eq_is]
  by_cases h : IsNan x
  · rw [decide_eq_true h, decide_eq_false (fun a => a.1 h)]; rfl
  · rw [decide_eq_false h, decide_eq_true ⟨h, h, rfl⟩]; rfl

theorem v_zero {x : Nat} : v x = 0 ↔ rung x = 0 := by
  unfold v
  have h := S_pos (r := rung x)
  split <;> omega
/-- The place among all is the order of what words are worth, but for the two zeros. -/
theorem K_lt {x y : Nat} (hx : ¬ IsNan x) (hy : ¬ IsNan y) (h0 : ¬ (rung x = 0 ∧ rung y = 0)) : K x < K y ↔ v x < v y := by
  unfold K v
  rw [if_neg hx, if_neg hy]
  have h1 := S_lt (a := rung x) (b := rung y)
  have h2 := S_lt (a := rung y) (b := rung x)
  have h3 := S_pos (r := rung x)
  have h4 := S_pos (r := rung y)
  cases sgn x <;> cases sgn y <;> simp <;> omega
theorem K_nan {x : Nat} : IsNan x ↔ K x = 9218868437227405313 := by
  unfold K
  constructor
  · intro h; rw [if_pos h]
  · intro h
    apply Decidable.byContradiction
    intro hn
    rw [if_neg hn] at h
    unfold IsNan at hn
    split at h <;> omega
theorem K_top (x : Nat) : K x ≤ 9218868437227405313 := by
  unfold K
  split
  · exact Int.le_refl _
  · rename_i hn
    unfold IsNan at hn
    split <;> omega
theorem K_word (s : Bool) {r : Nat} (h : r ≤ 9218868437227405312) : K (Ieee.double.word s r) = if s then -1 - (r : Int) else (r : Int) := by
  have hn : ¬ IsNan (Ieee.double.word s r) := by
    unfold IsNan
    rw [rung_word s r (by omega)]
    omega
  unfold K
  rw [if_neg hn, rung_word s r (by omega), sgn_word s r (by omega)]
theorem v_word (s : Bool) {r : Nat} (h : r ≤ 9218868437227405312) : v (Ieee.double.word s r) = if s then -(S r : Int) else (S r : Int) := by
  unfold v
  rw [rung_word s r (by omega), sgn_word s r (by omega)]
theorem nan_word (s : Bool) {r : Nat} (h : r ≤ 9218868437227405312) : ¬ IsNan (Ieee.double.word s r) := by
  unfold IsNan
  rw [rung_word s r (by omega)]
  omega

theorem S_pow {L : Nat} (h : 1022 ≤ L) : S (L * 4503599627370496 + 4503599627370496) = 2 ^ (L - 1022) * U := by
  have e := S_at (L := L) (k := 4503599627370496) (.inl (by omega)) (by omega)
  have h1 : 4503599627370496 * 2 ^ L = 2 ^ (52 + L) := by rw [Nat.pow_add]
  rw [e, h1, U_up (show 1074 ≤ 52 + L by omega), show 52 + L - 1074 = L - 1022 by omega]
theorem S_64 : S 4895412794951729152 = 18446744073709551616 * U := S_pow (L := 1086) (by omega)
theorem S_53 : S 4845873199050653696 = 9007199254740992 * U := S_pow (L := 1075) (by omega)
theorem S_1 : S 4607182418800017408 = U := by
  have h := S_pow (L := 1022) (by omega)
  rwa [Nat.sub_self, Nat.pow_zero, Nat.one_mul] at h
theorem S_dbl (L : Nat) : 2 * S (L * 4503599627370496 + 4503599627370496) = S ((L + 1) * 4503599627370496 + 4503599627370496) := by
  rw [S_at (.inl (by omega)) (by omega), S_at (.inl (by omega)) (by omega), Nat.pow_succ]
  generalize 2 ^ L = p
  omega
theorem S_half : 2 * S 4602678819172646912 = U := by
  have h := S_dbl 1021
  rw [show 1021 * 4503599627370496 + 4503599627370496 = 4602678819172646912 by omega, show (1021 + 1) * 4503599627370496 + 4503599627370496 = 4607182418800017408 by omega] at h
  exact h.trans S_1
end Fl

/-
  Whole numbers as floats and back, differences that are exact, quotients. Conditions: none; nothing of the program is named here.
-/
namespace Fl
open Go

theorem U_is (k : Nat) (h : k = 1074) : 2 ^ k = U := by
  rw [U_dvd (L := k) (by omega), show 1074 - k = 0 by omega, Nat.pow_zero, Nat.one_mul]
/-- A whole number as a float: the nearest one. -/
theorem ofInt_is (n : Int) : ∃ R, floatOfInt .f64 n = Ieee.double.word (decide (n < 0)) (min R 9218868437227405312) ∧ RN (n.natAbs * U) 1 R := by
  obtain ⟨R, h1, h2⟩ := near_is (decide (n < 0)) n.natAbs 0
  refine ⟨R, h1, ?_⟩
  rw [U_is _ (show ((0 : Int) + 1074).toNat = 1074 by omega), show (-1074 - (0 : Int)).toNat = 0 by omega, Nat.pow_zero] at h2
  exact h2
theorem has_int (k : Nat) (h : k ≤ 9007199254740992) : ∃ r, S r = k * U ∧ r ≤ 4845873199050653696 := by
  obtain ⟨e, he⟩ : ∃ e : Nat, e = 1074 := ⟨_, rfl⟩
  obtain ⟨r, hr⟩ := S_has k e h
  rw [U_is e he] at hr
  refine ⟨r, hr, ?_⟩
  apply Nat.le_of_not_lt
  intro hlt
  have := S_mono hlt
  rw [S_53, hr] at this
  have := Nat.mul_le_mul_right U h
  omega
/-- Up to 2^53 a whole number is exact. -/
theorem ofInt_exact {n : Int} (h : n.natAbs ≤ 9007199254740992) : ∃ r, floatOfInt .f64 n = Ieee.double.word (decide (n < 0)) r ∧ S r = n.natAbs * U ∧ r ≤ 4845873199050653696 := by
  obtain ⟨R, h1, h2⟩ := ofInt_is n
  obtain ⟨r, hr, hb⟩ := has_int n.natAbs h
  have : R = r := h2.eq_of (by omega) (by rw [Nat.mul_one]; exact hr.symm)
  subst this
  rw [Nat.min_eq_left (by omega)] at h1
  exact ⟨R, h1, hr, hb⟩
theorem ofInt_v {n : Int} (h : n.natAbs ≤ 9007199254740992) : v (floatOfInt .f64 n) = n * U ∧ rung (floatOfInt .f64 n) < 9218868437227405312 := by
  obtain ⟨r, h1, h2, h3⟩ := ofInt_exact h
  rw [h1, v_word _ (by omega), rung_word _ _ (by omega)]
  refine ⟨?_, by omega⟩
  rw [h2]
  by_cases hn : n < 0
  · rw [if_pos (by simpa using hn), Int.natCast_mul, ← Int.neg_mul]
    congr 1
    omega
  · rw [if_neg (by simpa using hn), Int.natCast_mul]
    congr 1
    omega
theorem nan_fin {x : Nat} (h : rung x < 9218868437227405312) : ¬ IsNan x := by unfold IsNan; omega

theorem read_fin {x : Nat} (h : rung x < 9218868437227405312) : Ieee.double.read x = .number (sgn x) (mg (rung x)) (-1074 + (up (rung x) : Int)) := by
  rw [read_is, if_pos h]
/-- Cut towards 0. -/
theorem cut_zero (s : Bool) (n d : Nat) : Ieee.Toward.zero.cut s n d = n / 2 ^ d := by
  unfold Ieee.Toward.cut
  dsimp only
  show n / (1 <<< min d (n.log2 + 2)) + 0 = _
  rw [Nat.shiftLeft_eq, Nat.one_mul, Nat.add_zero]
  by_cases hd : d ≤ n.log2 + 2
  · rw [Nat.min_eq_left hd]
  · rw [Nat.min_eq_right (by omega)]
    have hl : n < 2 ^ (n.log2 + 1) := Nat.lt_log2_self
    rw [Nat.div_eq_of_lt (Nat.lt_of_lt_of_le hl (Nat.pow_le_pow_right (by omega) (by omega))), Nat.div_eq_of_lt (Nat.lt_of_lt_of_le hl (Nat.pow_le_pow_right (by omega) (by omega)))]
theorem whole_is (r : Nat) : mg r * 2 ^ (-1074 + (up r : Int)).toNat / 2 ^ (-(-1074 + (up r : Int))).toNat = S r / U := by
  rw [S_parts]
  generalize up r = u
  generalize mg r = m
  by_cases h : u ≤ 1074
  · rw [show (-1074 + (u : Int)).toNat = 0 by omega, show (-(-1074 + (u : Int))).toNat = 1074 - u by omega, U_dvd h, Nat.mul_div_mul_right _ _ (Nat.two_pow_pos u), Nat.pow_zero, Nat.mul_one]
  · rw [show (-1074 + (u : Int)).toNat = u - 1074 by omega, show (-(-1074 + (u : Int))).toNat = 0 by omega, U_up (show 1074 ≤ u by omega), Nat.pow_zero, Nat.div_one, ← Nat.mul_assoc, Nat.mul_div_cancel _ U_pos]
theorem toInt_is {x : Nat} (h : rung x < 9218868437227405312) : (FloatKind.f64.decode x).toInt .zero = some (if sgn x then -((S (rung x) / U : Nat) : Int) else ((S (rung x) / U : Nat) : Int)) := by
  show (Ieee.double.read x).toInt .zero = _
  rw [read_fin h]
  unfold Ieee.Datum.toInt Ieee.Datum.integral
  dsimp only
  rw [Nat.shiftLeft_eq, cut_zero, whole_is]
  unfold Ieee.signed
  rw [Nat.shiftLeft_eq, Nat.pow_zero, Nat.mul_one]
/-- int(x), of a number of up to 2^53. -/
theorem trunc_is {x : Nat} (h : S (rung x) ≤ 9007199254740992 * U) (hr : rung x < 9218868437227405312) :
    floatToIntVal .f64 x .i64 = some (if sgn x then -((S (rung x) / U : Nat) : Int) else ((S (rung x) / U : Nat) : Int)) := by
  have hq : S (rung x) / U ≤ 9007199254740992 := by
    have := Nat.div_le_div_right (c := U) h
    rwa [Nat.mul_div_cancel _ U_pos] at this
  unfold floatToIntVal
  rw [toInt_is hr]
  dsimp only
  have e1 : IntKind.min .i64 = -9223372036854775808 := by decide
  have e2 : IntKind.max .i64 = 9223372036854775807 := by decide
  rw [e1, e2]
  generalize S (rung x) / U = q at *
  rw [if_pos (by split <;> omega)]

/-- A difference that has a rung is exact. -/
theorem sub_exact {x y r : Nat} (hx : rung x < 9218868437227405312) (hy : rung y < 9218868437227405312) (hr : r < 9218868437227405312) (he : S r = (v x - v y).natAbs) :
    ∃ d, floatBits .sub .f64 x y = some d ∧ v d = v x - v y ∧ rung d = r := by
  show ∃ d, Option.map Ieee.double.write ((Ieee.double.read x).sum (Ieee.double.read y).opposite) = some d ∧ _
  rw [read_fin hx, read_fin hy]
  show ∃ d, some (Ieee.double.nearest _ _ _) = some d ∧ _
  have e1 := v_signed x
  have e2 := v_signed y
  generalize up (rung x) = i at *
  generalize up (rung y) = j at *
  generalize mg (rung x) = m at *
  generalize mg (rung y) = n at *
  have s1 := signed_scale (sgn x) m (-1074 + (i : Int) - min (-1074 + (i : Int)) (-1074 + (j : Int))).toNat (min i j)
  have s2 := signed_scale (sgn y) n (-1074 + (j : Int) - min (-1074 + (i : Int)) (-1074 + (j : Int))).toNat (min i j)
  rw [show (-1074 + (i : Int) - min (-1074 + (i : Int)) (-1074 + (j : Int))).toNat + min i j = i by omega, ← e1] at s1
  rw [show (-1074 + (j : Int) - min (-1074 + (i : Int)) (-1074 + (j : Int))).toNat + min i j = j by omega, ← e2] at s2
  have so : ∀ s k a, Ieee.signed (!s) k a = -Ieee.signed s k a := fun s k a => by unfold Ieee.signed; cases s <;> simp
  rw [so]
  generalize Ieee.signed (sgn x) m (-1074 + (i : Int) - min (-1074 + (i : Int)) (-1074 + (j : Int))).toNat = a at *
  generalize Ieee.signed (sgn y) n (-1074 + (j : Int) - min (-1074 + (i : Int)) (-1074 + (j : Int))).toNat = b at *
  have hd : v x - v y = (a + -b) * (2 ^ min i j : Nat) := by rw [s1, s2, ← Int.sub_mul, Int.sub_eq_add_neg]
  obtain ⟨R, h1, h2⟩ := near_is (if a + -b = 0 then sgn x && !sgn y else decide (a + -b < 0)) (a + -b).natAbs (min (-1074 + (i : Int)) (-1074 + (j : Int)))
  refine ⟨_, rfl, ?_⟩
  have hR : R = r := by
    refine h2.eq_of (Nat.two_pow_pos _) ?_
    rw [he, hd, Int.natAbs_mul, Int.natAbs_natCast, show (min (-1074 + (i : Int)) (-1074 + (j : Int)) + 1074).toNat = min i j by omega, show (-1074 - min (-1074 + (i : Int)) (-1074 + (j : Int))).toNat = 0 by omega, Nat.pow_zero, Nat.mul_one]
  subst hR
  rw [Nat.min_eq_left (by omega)] at h1
  have h1' : Ieee.double.nearest (if a + -b = 0 then sgn x && !sgn y else decide (a + -b < 0)) (a + -b).natAbs (min (-1074 + (i : Int)) (-1074 + (j : Int))) = _ := h1
  rw [h1', v_word _ (by omega), rung_word _ _ (by omega), he, hd]
  refine ⟨?_, rfl⟩
  have hp : (0 : Int) < ((2 ^ min i j : Nat) : Int) := by have := Nat.two_pow_pos (min i j); omega
  generalize ((2 ^ min i j : Nat) : Int) = p at *
  rcases Int.lt_trichotomy (a + -b) 0 with h | h | h
  · have hneg : (a + -b) * p < 0 := Int.mul_neg_of_neg_of_pos h hp
    have hs : (if a + -b = 0 then sgn x && !sgn y else decide (a + -b < 0)) = true := by rw [if_neg (show ¬ a + -b = 0 by omega), decide_eq_true h]
    rw [if_pos hs]
    omega
  · rw [h]
    simp
  · have hpos : 0 < (a + -b) * p := Int.mul_pos h hp
    have hs : (if a + -b = 0 then sgn x && !sgn y else decide (a + -b < 0)) = false := by rw [if_neg (show ¬ a + -b = 0 by omega), decide_eq_false (by omega)]
    rw [if_neg (by rw [hs]; simp)]
    omega
end Fl

/-
  The nearest whole number, of two that are as near the even one: what it is, that its distance is told exactly. Conditions: none; nothing of the program is named here.
-/
namespace Fl
open Go

/-- The nearest whole number to s / U. -/
def rq (s : Nat) : Nat := if 2 * (s % U) < U ∨ (2 * (s % U) = U ∧ s / U % 2 = 0) then s / U else s / U + 1
/-- Is a word a number of up to 2^53? -/
def RndOk (x : Nat) : Prop := rung x ≤ 4845873199050653696
instance (x : Nat) : Decidable (RndOk x) := inferInstanceAs (Decidable (_ ≤ _))
def sg (x : Nat) (n : Nat) : Int := if sgn x then -(n : Int) else (n : Int)
def rnd (x : Nat) : Int := if RndOk x then sg x (rq (S (rung x))) else 0

theorem RndOk.fin {x : Nat} (h : RndOk x) : rung x < 9218868437227405312 := by unfold RndOk at h; omega
theorem RndOk.le {x : Nat} (h : RndOk x) : S (rung x) ≤ 9007199254740992 * U := by rw [← S_53]; exact S_mono' h
theorem div_bound {s : Nat} (h : s ≤ 9007199254740992 * U) : s / U ≤ 9007199254740992 ∧ (s % U ≠ 0 → s / U + 1 ≤ 9007199254740992) := by
  have h1 := Nat.div_add_mod s U
  have h2 := U_pos
  have h3 : s / U ≤ 9007199254740992 := by
    have := Nat.div_le_div_right (c := U) h
    rwa [Nat.mul_div_cancel _ U_pos] at this
  refine ⟨h3, fun hm => ?_⟩
  apply Nat.le_of_not_lt
  intro hlt
  have h4 : s / U = 9007199254740992 := by
    generalize s / U = q at *
    omega
  rw [h4, Nat.mul_comm] at h1
  omega
theorem mg_le (r : Nat) : mg r ≤ 9007199254740992 := by unfold mg; split <;> omega
theorem abs_a {s a t : Nat} (h : a + t = s) : ((s : Int) - (a : Nat)).natAbs = t := by omega
theorem abs_b {s a t u : Nat} (h : a + t = s) (ht : t < u) : ((s : Int) - ((a + u : Nat) : Nat)).natAbs = u - t := by omega
theorem has_le {r k u z : Nat} (h1 : k * 2 ^ u = z) (h2 : k ≤ 9007199254740992) (h3 : z ≤ S r) : ∃ r', S r' = z ∧ r' ≤ r := by
  obtain ⟨r', hr'⟩ := S_has k u h2
  refine ⟨r', by rw [hr', h1], ?_⟩
  apply Nat.le_of_not_lt
  intro hl
  have := S_mono hl
  rw [hr', h1] at this
  exact absurd h3 (Nat.not_le_of_gt this)
/-- What is left of a number by a whole one next to it has a rung. -/
theorem left_has {r q : Nat} (hq : q = S r / U ∨ (q = S r / U + 1 ∧ S r % U ≠ 0 ∧ q * U ≤ S r + S r)) : ∃ r', S r' = ((S r : Int) - (q * U : Nat)).natAbs ∧ r' ≤ r := by
  have hU := U_pos
  have hdm := Nat.div_add_mod (S r) U
  rw [Nat.mul_comm] at hdm
  have hlt := Nat.mod_lt (S r) hU
  have hm := mg_le r
  have hs := S_parts r
  have hpu := Nat.two_pow_pos (up r)
  by_cases hu : up r ≤ 1074
  · have hd := U_dvd hu
    have e1 : S r % U = mg r % 2 ^ (1074 - up r) * 2 ^ up r := by rw [hs, hd, Nat.mul_mod_mul_right]
    rcases hq with rfl | ⟨rfl, h0, hle⟩
    · rw [abs_a hdm]
      exact has_le e1.symm (Nat.le_trans (Nat.mod_le _ _) hm) (Nat.mod_le _ _)
    · have e3 : (S r / U + 1) * U = S r / U * U + U := by rw [Nat.add_mul, Nat.one_mul]
      rw [e3] at hle ⊢
      rw [abs_b hdm hlt]
      have e4 : (2 ^ (1074 - up r) - mg r % 2 ^ (1074 - up r)) * 2 ^ up r = U - S r % U := by rw [Nat.sub_mul, ← hd, ← e1]
      have e5 : U - S r % U ≤ S r := by
        clear hs hd e1 e3 e4 hpu
        generalize S r / U * U = a at *
        generalize S r % U = b at *
        generalize S r = s at *
        omega
      refine has_le e4 ?_ e5
      rw [← e4] at e5
      have h5 := e5
      rw [hs] at h5
      exact Nat.le_trans (Nat.le_of_mul_le_mul_right h5 hpu) hm
  · have hd := U_up (show 1074 ≤ up r by omega)
    have e1 : S r % U = 0 := by rw [hs, hd, ← Nat.mul_assoc, Nat.mul_mod_left]
    rcases hq with rfl | ⟨rfl, h0, hle⟩
    · rw [abs_a hdm, e1]
      exact ⟨0, rfl, Nat.zero_le _⟩
    · exact absurd e1 h0
theorem sg_v (x : Nat) : v x = sg x (S (rung x)) := rfl
/-- x - float64(n), where n is a whole number next to x. -/
theorem left_is {x q : Nat} (h : RndOk x) (hq : q = S (rung x) / U ∨ (q = S (rung x) / U + 1 ∧ S (rung x) % U ≠ 0 ∧ q * U ≤ S (rung x) + S (rung x))) :
    ∃ d, floatBits .sub .f64 x (floatOfInt .f64 (sg x q)) = some d ∧ v d = v x - sg x q * U ∧ ¬ IsNan d ∧ rung d ≤ rung x := by
  have hb := div_bound h.le
  have hqb : q ≤ 9007199254740992 := by
    rcases hq with rfl | ⟨rfl, h0, _⟩
    · exact hb.1
    · exact hb.2 h0
  have hn : (sg x q).natAbs ≤ 9007199254740992 := by unfold sg; split <;> omega
  obtain ⟨hv, hr⟩ := ofInt_v hn
  obtain ⟨r', e1, e2⟩ := left_has hq
  obtain ⟨d, d1, d2, d3⟩ := sub_exact (r := r') h.fin hr (by have := h.fin; omega) (by
    rw [hv, e1, sg_v]
    unfold sg
    split
    · rw [Int.neg_mul, ← Int.natCast_mul]; omega
    · rw [← Int.natCast_mul])
  refine ⟨d, d1, by rw [d2, hv], nan_fin (by have := h.fin; omega), by omega⟩
theorem rq_near (s : Nat) : rq s = s / U ∨ (rq s = s / U + 1 ∧ s % U ≠ 0 ∧ rq s * U ≤ s + s) := by
  unfold rq
  split
  · exact .inl rfl
  · rename_i hn
    by_cases h0 : s % U = 0
    · have := U_pos; omega
    · refine .inr ⟨rfl, h0, ?_⟩
      have h1 := Nat.div_add_mod s U
      rw [Nat.mul_comm] at h1
      have h2 : (s / U + 1) * U = s / U * U + U := by rw [Nat.add_mul, Nat.one_mul]
      rw [h2]
      by_cases hz : s / U = 0
      · rw [hz, Nat.zero_mul] at h1 ⊢
        rw [hz] at hn
        omega
      · have h3 := Nat.mul_le_mul_right U (Nat.pos_of_ne_zero hz)
        generalize s / U * U = z at *
        omega
/-- The nearest whole number's distance. -/
theorem rq_dist (s : Nat) : 2 * (s : Int) - 2 * (rq s * U : Nat) ≤ U ∧ -(U : Int) ≤ 2 * (s : Int) - 2 * (rq s * U : Nat) ∧ ((2 * (s : Int) - 2 * (rq s * U : Nat) = U ∨ 2 * (s : Int) - 2 * (rq s * U : Nat) = -(U : Int)) → rq s % 2 = 0) := by
  have h1 := Nat.div_add_mod s U
  rw [Nat.mul_comm] at h1
  have hlt := Nat.mod_lt s U_pos
  have h2 : (s / U + 1) * U = s / U * U + U := by rw [Nat.add_mul, Nat.one_mul]
  unfold rq
  generalize s % U = t at *
  generalize s / U = q at *
  split
  · exact ⟨by omega, by omega, fun h => by omega⟩
  · rename_i hn
    rw [h2]
    exact ⟨by omega, by omega, fun h => by omega⟩
theorem rq_int (n : Nat) : rq (n * U) = n := by
  unfold rq
  rw [Nat.mul_mod_left, Nat.mul_div_cancel _ U_pos, if_pos (.inl (by have := U_pos; omega))]
theorem rnd_ok {x : Nat} (h : RndOk x) : rnd x = sg x (rq (S (rung x))) := if_pos h
theorem rnd_no {x : Nat} (h : ¬ RndOk x) : rnd x = 0 := if_neg h
theorem rnd_int {n : Int} (h : n.natAbs ≤ 9007199254740992) : RndOk (floatOfInt .f64 n) ∧ rnd (floatOfInt .f64 n) = n := by
  obtain ⟨r, h1, h2, h3⟩ := ofInt_exact h
  have hk : RndOk (floatOfInt .f64 n) := by unfold RndOk; rw [h1, rung_word _ _ (by omega)]; exact h3
  refine ⟨hk, ?_⟩
  rw [rnd_ok hk]
  unfold sg
  rw [h1, rung_word _ _ (by omega), sgn_word _ _ (by omega), h2, rq_int]
  by_cases hn : n < 0
  · rw [if_pos (by simpa using hn)]; omega
  · rw [if_neg (by simpa using hn)]; omega
/-- Another sign. -/
theorem neg_is {x : Nat} (h : x < 18446744073709551616) : rung (Op.negFloat .f64 x) = rung x ∧ sgn (Op.negFloat .f64 x) = !sgn x ∧ Op.negFloat .f64 x < 18446744073709551616 := by
  have e : Op.negFloat .f64 x = x ^^^ 2 ^ 63 := rfl
  rw [e]
  have h1 : (x ^^^ 2 ^ 63) % 2 ^ 63 = x % 2 ^ 63 := by
    rw [Nat.xor_mod_two_pow, Nat.mod_self, Nat.xor_zero]
  have h2 : (x ^^^ 2 ^ 63) / 2 ^ 63 = x / 2 ^ 63 ^^^ 1 := by
    rw [← Nat.shiftRight_eq_div_pow, Nat.shiftRight_xor_distrib, Nat.shiftRight_eq_div_pow, Nat.shiftRight_eq_div_pow, Nat.div_self (Nat.two_pow_pos _)]
  have h3 : x / 2 ^ 63 = 0 ∨ x / 2 ^ 63 = 1 := by omega
  refine ⟨h1, ?_, ?_⟩
  · unfold sgn
    show ((x ^^^ 2 ^ 63) / 2 ^ 63 % 2 == 1) = !(x / 2 ^ 63 % 2 == 1)
    rw [h2]
    rcases h3 with h3 | h3 <;> rw [h3] <;> rfl
  · have h4 := Nat.div_add_mod (x ^^^ 2 ^ 63) (2 ^ 63)
    rw [h2] at h4
    have h5 := Nat.mod_lt (x ^^^ 2 ^ 63) (Nat.two_pow_pos 63)
    rcases h3 with h3 | h3 <;> rw [h3] at h4
    · rw [show (0 : Nat) ^^^ 1 = 1 from rfl] at h4; omega
    · rw [show (1 : Nat) ^^^ 1 = 0 from rfl] at h4; omega
theorem rnd_neg {x : Nat} (h : x < 18446744073709551616) : rnd (Op.negFloat .f64 x) = -rnd x ∧ (RndOk (Op.negFloat .f64 x) ↔ RndOk x) := by
  obtain ⟨h1, h2, _⟩ := neg_is h
  have hk : RndOk (Op.negFloat .f64 x) ↔ RndOk x := by unfold RndOk; rw [h1]
  refine ⟨?_, hk⟩
  by_cases ho : RndOk x
  · rw [rnd_ok ho, rnd_ok (hk.2 ho)]
    unfold sg
    rw [h1, h2]
    cases sgn x <;> simp
  · rw [rnd_no ho, rnd_no (fun h => ho (hk.1 h))]
    rfl
end Fl

/-
  Quotients of floating-point numbers, and of whole numbers as such: what they are, that they are in order. Conditions: none; nothing of the program is named here.
-/
namespace Fl
open Go

theorem mg_pos {r : Nat} : 0 < mg r ↔ 0 < r := by unfold mg; split <;> omega
/-- A quotient by what isn't 0. -/
theorem div_is {x y : Nat} (hx : rung x < 9218868437227405312) (hy : rung y < 9218868437227405312) (h0 : 0 < rung y) :
    ∃ R, floatBits .quo .f64 x y = some (Ieee.double.word (sgn x ^^ sgn y) (min R 9218868437227405312)) ∧ RN (S (rung x) * U) (S (rung y)) R := by
  show ∃ R, Option.map Ieee.double.write ((Ieee.double.read x).quotient (52 + 2) (Ieee.double.read y)) = _ ∧ _
  rw [read_fin hx, read_fin hy]
  have hn := mg_pos.2 h0
  have sx := S_parts (rung x)
  have sy := S_parts (rung y)
  unfold Ieee.Datum.quotient
  dsimp only
  rw [if_neg (by omega)]
  generalize up (rung x) = i at *
  generalize up (rung y) = j at *
  generalize mg (rung x) = m at *
  generalize mg (rung y) = n at *
  rw [sx, sy]
  by_cases hm : m = 0
  · subst hm
    refine ⟨0, ?_, by rw [Nat.zero_mul, Nat.zero_mul]; exact RN.zero _⟩
    rw [Nat.zero_shiftLeft, Nat.zero_div, Nat.zero_mod]
    show some (Ieee.double.nearest _ 0 _) = _
    unfold Ieee.Format.nearest
    rw [if_pos rfl]
    rfl
  · obtain ⟨more, hmore⟩ : ∃ k, 52 + 2 + n.log2 - m.log2 = k := ⟨_, rfl⟩
    rw [hmore, Nat.shiftLeft_eq]
    have hbig : 9007199254740992 ≤ m * 2 ^ more / n := by
      rw [Nat.le_div_iff_mul_le hn]
      have h1 : 2 ^ m.log2 ≤ m := Nat.log2_self_le hm
      have h2 : n < 2 ^ (n.log2 + 1) := Nat.lt_log2_self
      have h3 : 2 ^ (54 + n.log2) ≤ m * 2 ^ more := by
        have h4 := Nat.mul_le_mul_right (2 ^ more) h1
        rw [← Nat.pow_add] at h4
        exact Nat.le_trans (Nat.pow_le_pow_right (by omega) (by omega)) h4
      have h5 : 9007199254740992 * 2 ^ (n.log2 + 1) = 2 ^ (54 + n.log2) := by
        rw [show (9007199254740992 : Nat) = 2 ^ 53 from rfl, ← Nat.pow_add]
        congr 1
        omega
      have h6 := Nat.mul_le_mul_left 9007199254740992 (Nat.le_of_lt h2)
      omega
    obtain ⟨R, h1, h2⟩ := near_quot (sgn x ^^ sgn y) (m * 2 ^ more) n (-1074 + (i : Int) - (-1074 + (j : Int)) - more) hn hbig
    refine ⟨R, ?_, ?_⟩
    · show some (Ieee.double.nearest _ _ _) = _
      rw [← h1]
    · refine h2.scale (Nat.mul_pos hn (Nat.two_pow_pos _)) (Nat.mul_pos hn (Nat.two_pow_pos _)) ?_
      obtain ⟨k, hk⟩ : ∃ k : Nat, k = 1074 := ⟨_, rfl⟩
      rw [← U_is k hk]
      have e : ∀ a b c d : Nat, m * 2 ^ a * 2 ^ b * (n * 2 ^ c) = m * n * 2 ^ (a + b + c) := fun a b c d => by
        rw [Nat.pow_add, Nat.pow_add, Nat.mul_assoc m, Nat.mul_mul_mul_comm]
      have e2 : ∀ a b c d : Nat, m * 2 ^ a * 2 ^ b * (n * 2 ^ c) = m * n * 2 ^ (a + b + c) := e
      rw [e _ _ _ 0, e2 _ _ _ 0]
      congr 2
      omega
/-- A quotient by 0. -/
theorem div_zero {x y : Nat} (hx : rung x < 9218868437227405312) (h0 : rung y = 0) :
    floatBits .quo .f64 x y = if rung x = 0 then none else some (Ieee.double.word (sgn x ^^ sgn y) 9218868437227405312) := by
  show Option.map Ieee.double.write ((Ieee.double.read x).quotient (52 + 2) (Ieee.double.read y)) = _
  rw [read_fin hx, read_fin (show rung y < 9218868437227405312 by omega), h0]
  have hm := mg_pos (r := rung x)
  unfold Ieee.Datum.quotient
  dsimp only
  rw [if_pos (show mg 0 = 0 from rfl)]
  by_cases h : rung x = 0
  · rw [if_pos h, if_pos (by omega)]
    rfl
  · rw [if_neg h, if_neg (by omega)]
    rfl

/-- A whole number from 0 as a float. -/
theorem nat_is {a : Nat} (ha : a < 18446744073709551616) : ∃ A, floatOfInt .f64 (a : Int) = Ieee.double.word false A ∧ A ≤ 4895412794951729152 ∧ RN (a * U) 1 A ∧ (0 < a → 4607182418800017408 ≤ A) ∧ (a = 0 → A = 0) := by
  obtain ⟨R, h1, h2⟩ := ofInt_is (a : Int)
  rw [Int.natAbs_natCast] at h2
  have hb : R ≤ 4895412794951729152 := h2.le_of (by omega) (by rw [Nat.mul_one, S_64]; exact Nat.mul_le_mul_right _ (by omega))
  rw [Nat.min_eq_left (by omega), decide_eq_false (by omega)] at h1
  refine ⟨R, h1, hb, h2, fun h0 => h2.ge_of (by omega) ?_, fun h0 => ?_⟩
  · rw [S_1, Nat.mul_one]
    have := Nat.mul_le_mul_right U (show 1 ≤ a by omega)
    omega
  · subst h0
    rw [Nat.zero_mul] at h2
    exact h2.eq_of (by omega) (by rw [S_zero])
/-- A whole number below 0. -/
theorem neg_nat {a : Nat} (ha : a < 18446744073709551616) (h0 : 0 < a) : ∃ A, floatOfInt .f64 (-(a : Int)) = Ieee.double.word true A ∧ A ≤ 4895412794951729152 ∧ 4607182418800017408 ≤ A := by
  obtain ⟨R, h1, h2⟩ := ofInt_is (-(a : Int))
  rw [Int.natAbs_neg, Int.natAbs_natCast] at h2
  have hb : R ≤ 4895412794951729152 := h2.le_of (by omega) (by rw [Nat.mul_one, S_64]; exact Nat.mul_le_mul_right _ (by omega))
  rw [Nat.min_eq_left (by omega), decide_eq_true (by omega)] at h1
  refine ⟨R, h1, hb, h2.ge_of (by omega) ?_⟩
  rw [S_1, Nat.mul_one]
  have := Nat.mul_le_mul_right U (show 1 ≤ a by omega)
  omega

/-- A fee for each byte, as the document has it: none where it is no number. -/
def rate (fee : Nat) (n : Int) : Option Nat := floatBits .quo .f64 (floatOfInt .f64 (fee : Int)) (floatOfInt .f64 n)
/-- What a call may answer for it: a word of that place among all. -/
def IsRate (fee : Nat) (n : Int) (r : Nat) : Prop := K r = match rate fee n with | some q => K q | none => 9218868437227405313

/-- A rate for some bytes. -/
theorem rate_pos {a n : Nat} (ha : a < 18446744073709551616) (hn : 0 < n) (hn2 : n < 18446744073709551616) : ∃ A B R, rate a n = some (Ieee.double.word false (min R 9218868437227405312)) ∧ RN (a * U) 1 A ∧ RN (n * U) 1 B ∧ 0 < S B ∧ RN (S A * U) (S B) R := by
  obtain ⟨A, a1, a2, a3, a4, a5⟩ := nat_is ha
  obtain ⟨B, b1, b2, b3, b4, b5⟩ := nat_is hn2
  have hB := b4 hn
  obtain ⟨R, r1, r2⟩ := div_is (x := floatOfInt .f64 (a : Int)) (y := floatOfInt .f64 (n : Int)) (by rw [a1, rung_word _ _ (by omega)]; omega) (by rw [b1, rung_word _ _ (by omega)]; omega) (by rw [b1, rung_word _ _ (by omega)]; omega)
  rw [a1, b1, rung_word _ _ (by omega), rung_word _ _ (by omega)] at r2
  rw [a1, b1, sgn_word _ _ (by omega), sgn_word _ _ (by omega)] at r1
  refine ⟨A, B, R, ?_, a3, b3, S_pos.2 (by omega), r2⟩
  unfold rate
  rw [a1, b1]
  exact r1
theorem isRate_pos {a n r : Nat} (ha : a < 18446744073709551616) (hn : 0 < n) (hn2 : n < 18446744073709551616) (h : IsRate a n r) : ∃ A B R, K r = (min R 9218868437227405312 : Nat) ∧ RN (a * U) 1 A ∧ RN (n * U) 1 B ∧ 0 < S B ∧ RN (S A * U) (S B) R := by
  obtain ⟨A, B, R, h1, h2, h3, h4, h5⟩ := rate_pos ha hn hn2
  refine ⟨A, B, R, ?_, h2, h3, h4, h5⟩
  unfold IsRate at h
  rw [h1] at h
  rw [h]
  show K _ = _
  rw [K_word _ (Nat.min_le_right _ _)]
  rfl
/-- A greater fee isn't ahead. -/
theorem rate_fee {a b n r s : Nat} (hab : a ≤ b) (hb : b < 18446744073709551616) (hn : 0 < n) (hn2 : n < 18446744073709551616) (hr : IsRate a n r) (hs : IsRate b n s) : K r ≤ K s := by
  obtain ⟨A, B, R, k1, a1, b1, p1, r1⟩ := isRate_pos (by omega) hn hn2 hr
  obtain ⟨A', B', R', k2, a2, b2, p2, r2⟩ := isRate_pos hb hn hn2 hs
  have hB : B = B' := b1.one b2 (by omega) (by omega) rfl
  subst hB
  have hA : A ≤ A' := a1.mono a2 (by omega) (by omega) (by rw [Nat.mul_one, Nat.mul_one]; exact Nat.mul_le_mul_right _ hab)
  have hR : R ≤ R' := r1.mono r2 p1 p1 (Nat.mul_le_mul_right _ (Nat.mul_le_mul_right _ (S_mono' hA)))
  rw [k1, k2]
  have : min R 9218868437227405312 ≤ min R' 9218868437227405312 := by omega
  omega
/-- More bytes aren't behind. -/
theorem rate_bytes {a n m r s : Nat} (ha : a < 18446744073709551616) (hnm : n ≤ m) (hn : 0 < n) (hm : m < 18446744073709551616) (hr : IsRate a n r) (hs : IsRate a m s) : K s ≤ K r := by
  obtain ⟨A, B, R, k1, a1, b1, p1, r1⟩ := isRate_pos ha hn (by omega) hr
  obtain ⟨A', B', R', k2, a2, b2, p2, r2⟩ := isRate_pos ha (by omega) hm hs
  have hA : A = A' := a1.one a2 (by omega) (by omega) rfl
  subst hA
  have hB : B ≤ B' := b1.mono b2 (by omega) (by omega) (by rw [Nat.mul_one, Nat.mul_one]; exact Nat.mul_le_mul_right _ hnm)
  have hR : R' ≤ R := r2.mono r1 p2 p1 (Nat.mul_le_mul_left _ (S_mono' hB))
  rw [k1, k2]
  have : min R' 9218868437227405312 ≤ min R 9218868437227405312 := by omega
  omega
/-- No bytes. -/
theorem rate_none {a r : Nat} (ha : a < 18446744073709551616) (h : IsRate a 0 r) : K r = if a = 0 then 9218868437227405313 else 9218868437227405312 := by
  obtain ⟨A, a1, a2, a3, a4, a5⟩ := nat_is ha
  obtain ⟨B, b1, b2, b3, b4, b5⟩ := nat_is (a := 0) (by omega)
  have hB := b5 rfl
  subst hB
  unfold IsRate rate at h
  rw [a1, show (0 : Int) = ((0 : Nat) : Int) from rfl, b1, div_zero (by rw [rung_word _ _ (by omega)]; omega) (by rw [rung_word _ _ (by omega)]), rung_word _ _ (by omega), sgn_word _ _ (by omega), sgn_word _ _ (by omega)] at h
  by_cases h0 : a = 0
  · rw [if_pos h0]
    rw [if_pos (a5 h0)] at h
    exact h
  · rw [if_neg h0]
    rw [if_neg (by have := a4 (by omega); omega)] at h
    rw [h]
    show K _ = _
    rw [K_word _ (by omega)]
    rfl
/-- Bytes below 0. -/
theorem rate_neg {a n r : Nat} (ha : a < 18446744073709551616) (hn : 0 < n) (hn2 : n < 18446744073709551616) (h : IsRate a (-(n : Int)) r) : -4895412794951729153 ≤ K r ∧ K r < 0 := by
  obtain ⟨A, a1, a2, a3, a4, a5⟩ := nat_is ha
  obtain ⟨B, b1, b2, b3⟩ := neg_nat hn2 hn
  obtain ⟨R, r1, r2⟩ := div_is (x := floatOfInt .f64 (a : Int)) (y := floatOfInt .f64 (-(n : Int))) (by rw [a1, rung_word _ _ (by omega)]; omega) (by rw [b1, rung_word _ _ (by omega)]; omega) (by rw [b1, rung_word _ _ (by omega)]; omega)
  unfold IsRate rate at h
  rw [r1] at h
  rw [a1, b1, rung_word _ _ (by omega), rung_word _ _ (by omega)] at r2
  have hR : R ≤ 4895412794951729152 := r2.le_of (S_pos.2 (by omega)) (by
    have h1 := S_mono' a2
    have h2 := S_mono' b3
    rw [S_1] at h2
    exact Nat.mul_le_mul h1 h2)
  rw [a1, b1, sgn_word _ _ (by omega), sgn_word _ _ (by omega), Nat.min_eq_left (by omega)] at h
  dsimp only at h
  rw [K_word _ (by omega)] at h
  rw [h]
  simp
  omega
theorem isRate_one {a : Nat} {n : Int} {r s : Nat} (h1 : IsRate a n r) (h2 : IsRate a n s) : K r = K s := h1.trans h2.symm
end Fl

/-
  The document's answers of layer 15 on the order of rates. Conditions: none.
-/
namespace Go.Proofs.Ytbgpgdbheajekaa
open Go.RowKit
open Fl (K v rung sgn IsNan RndOk rnd)

theorem ref15_nan (x : Nat) (w : World) : Calls Try.prog 24 #[.float .f64 x] w (Hands (.bool (decide (IsNan x))) w) := by
  have h := Fl.nan_is x
  generalize decide (IsNan x) = b at *
  go_enter Try.func24, Try.ntmps24
  go_wp2
  go_ret
  exact ⟨rfl, 0, rfl⟩
theorem zero_word : rung 0 = 0 ∧ v 0 = 0 ∧ ¬ IsNan 0 := by
  have h : rung 0 = 0 := rfl
  exact ⟨h, Fl.v_zero.2 h, Fl.nan_fin (by rw [h]; omega)⟩
theorem one_word : rung 4607182418800017408 = 4607182418800017408 ∧ sgn 4607182418800017408 = false ∧ ¬ IsNan 4607182418800017408 := by
  have h : rung 4607182418800017408 = 4607182418800017408 := by unfold Fl.rung; omega
  exact ⟨h, by unfold Fl.sgn; rw [show 4607182418800017408 / 9223372036854775808 = 0 by omega]; rfl, Fl.nan_fin (by rw [h]; omega)⟩
theorem is_zero (x : Nat) : (FloatKind.f64.format.order x 0 == some Ordering.eq) = decide (rung x = 0) := by
  rw [Fl.eq_is]
  have z := zero_word
  rw [z.2.1]
  by_cases h : rung x = 0
  · rw [decide_eq_true h, decide_eq_true ⟨Fl.nan_fin (by omega), z.2.2, Fl.v_zero.2 h⟩]
  · rw [decide_eq_false h, decide_eq_false (fun hh => h (Fl.v_zero.1 hh.2.2))]
/-- One by a zero. -/
theorem one_by_zero {x : Nat} (h : rung x = 0) : floatBits .quo .f64 4607182418800017408 x = some (Ieee.double.word (sgn x) 9218868437227405312) := by
  rw [Fl.div_zero (by rw [one_word.1]; omega) h, one_word.1, if_neg (by omega), one_word.2.1, Bool.false_xor]
theorem inf_lt (s : Bool) : (FloatKind.f64.format.order (Ieee.double.word s 9218868437227405312) 0 == some Ordering.lt) = s := by
  rw [Fl.lt_is, zero_word.2.1, Fl.v_word _ (by omega)]
  have hp : 0 < Fl.S 9218868437227405312 := Fl.S_pos.2 (by omega)
  have hn := Fl.nan_word s (r := 9218868437227405312) (by omega)
  have hz := zero_word.2.2
  generalize Fl.S 9218868437227405312 = s0 at *
  cases s
  · rw [decide_eq_false]
    intro h
    have := h.2.2
    simp at this
    omega
  · rw [decide_eq_true ⟨hn, hz, by simp; omega⟩]
theorem ref15_below (x : Nat) (w : World) : Calls Try.prog 26 #[.float .f64 x] w (Hands (.bool (decide (rung x = 0) && sgn x)) w) := by
  have h0 := is_zero x
  by_cases hz : rung x = 0
  · rw [decide_eq_true hz] at h0 ⊢
    have hd := fun W t => run_float_arith (P := Try.prog) W .quo t .f64 4607182418800017408 x _ (one_by_zero hz)
    have hl := inf_lt (sgn x)
    generalize Ieee.double.word (sgn x) 9218868437227405312 = q at *
    generalize sgn x = s at *
    go_enter Try.func26, Try.ntmps26
    go_wp2
    go_ret
    exact ⟨rfl, 0, rfl⟩
  · rw [decide_eq_false hz] at h0 ⊢
    go_enter Try.func26, Try.ntmps26
    go_wp2
    go_ret
    exact ⟨rfl, 0, rfl⟩
theorem K_zeros {a b : Nat} (ha : rung a = 0) (hb : rung b = 0) : decide (K a < K b) = (sgn a && !sgn b) := by
  unfold Fl.K
  rw [if_neg (Fl.nan_fin (by omega)), if_neg (Fl.nan_fin (by omega)), ha, hb]
  cases sgn a <;> cases sgn b <;> rfl
/-- Which one is ahead: by the places among all. -/
theorem less_nan {a b : Nat} (ha : IsNan a) : decide (K a < K b) = false := decide_eq_false (by have := Fl.K_nan.1 ha; have := Fl.K_top b; omega)
theorem less_nan' {a b : Nat} (ha : ¬ IsNan a) (hb : IsNan b) : decide (K a < K b) = true := decide_eq_true (by
  have h1 := Fl.K_nan.1 hb
  have h2 := Fl.K_top a
  have h3 : K a ≠ 9218868437227405313 := fun h => ha (Fl.K_nan.2 h)
  omega)
theorem less_num {a b : Nat} (ha : ¬ IsNan a) (hb : ¬ IsNan b) (h0 : ¬ (rung a = 0 ∧ rung b = 0)) : (FloatKind.f64.format.order a b == some Ordering.lt) = decide (K a < K b) := by
  rw [Fl.lt_is]
  have h := Fl.K_lt ha hb h0
  by_cases hv : v a < v b
  · rw [decide_eq_true ⟨ha, hb, hv⟩, decide_eq_true (h.2 hv)]
  · rw [decide_eq_false (fun hh => hv hh.2.2), decide_eq_false (fun hh => hv (h.1 hh))]
set_option maxHeartbeats 800000 in
theorem ref15_less (a b : Nat) (w : World) : Calls Try.prog 13 #[.float .f64 a, .float .f64 b] w (Hands (.bool (decide (K a < K b))) w) := by
  have HA := Lib.hid (ref15_nan a)
  have HB := Lib.hid (ref15_nan b)
  have HC := Lib.hid (ref15_below a)
  have HD := Lib.hid (ref15_below b)
  by_cases ha : IsNan a
  · rw [less_nan ha]
    rw [decide_eq_true ha] at HA
    clear HB HC HD
    go_enter Try.func13, Try.ntmps13
    go_wp2_with fail
    refine (HA.out _).mono ?_
    rintro e w1 ⟨rfl, n1, rfl⟩
    go_wp2
    go_ret
    exact ⟨rfl, _, rfl⟩
  rw [decide_eq_false ha] at HA
  by_cases hb : IsNan b
  · rw [less_nan' ha hb]
    rw [decide_eq_true hb] at HB
    clear HC HD
    go_enter Try.func13, Try.ntmps13
    go_wp2_with fail
    refine (HA.out _).mono ?_
    rintro e w1 ⟨rfl, n1, rfl⟩
    go_wp2_with fail
    refine (HB.out _).mono ?_
    rintro e w1 ⟨rfl, n2, rfl⟩
    go_wp2
    go_ret
    exact ⟨rfl, _, rfl⟩
  rw [decide_eq_false hb] at HB
  have za := is_zero a
  have zb := is_zero b
  by_cases h0 : rung a = 0 ∧ rung b = 0
  · rw [K_zeros h0.1 h0.2]
    rw [decide_eq_true h0.1] at za HC
    rw [decide_eq_true h0.2] at zb HD
    rw [Bool.true_and] at HC HD
    clear ha hb h0
    generalize sgn a = s at *
    generalize sgn b = t at *
    go_enter Try.func13, Try.ntmps13
    go_wp2_with fail
    refine (HA.out _).mono ?_
    rintro e w1 ⟨rfl, n1, rfl⟩
    go_wp2_with fail
    refine (HB.out _).mono ?_
    rintro e w1 ⟨rfl, n2, rfl⟩
    go_wp2_with fail
    refine (HC.out _).mono ?_
    rintro e w1 ⟨rfl, n3, rfl⟩
    cases s
    · go_wp2
      go_ret
      exact ⟨rfl, _, rfl⟩
    · go_wp2_with fail
      refine (HD.out _).mono ?_
      rintro e w1 ⟨rfl, n4, rfl⟩
      go_wp2
      go_ret
      exact ⟨rfl, _, rfl⟩
  · have hl := less_num ha hb h0
    generalize decide (K a < K b) = r at *
    clear HC HD ha hb
    by_cases h1 : rung a = 0
    · rw [decide_eq_true h1] at za
      rw [decide_eq_false (fun h => h0 ⟨h1, h⟩)] at zb
      clear h0
      go_enter Try.func13, Try.ntmps13
      go_wp2_with fail
      refine (HA.out _).mono ?_
      rintro e w1 ⟨rfl, n1, rfl⟩
      go_wp2_with fail
      refine (HB.out _).mono ?_
      rintro e w1 ⟨rfl, n2, rfl⟩
      go_wp2
      go_ret
      exact ⟨rfl, _, rfl⟩
    · rw [decide_eq_false h1] at za
      clear h0
      go_enter Try.func13, Try.ntmps13
      go_wp2_with fail
      refine (HA.out _).mono ?_
      rintro e w1 ⟨rfl, n1, rfl⟩
      go_wp2_with fail
      refine (HB.out _).mono ?_
      rintro e w1 ⟨rfl, n2, rfl⟩
      go_wp2
      go_ret
      exact ⟨rfl, _, rfl⟩
theorem same_of {a b : Nat} : (!decide (K a < K b) && !decide (K b < K a)) = decide (K a = K b) := by
  rcases Int.lt_trichotomy (K a) (K b) with h | h | h
  · rw [decide_eq_true h, decide_eq_false (show ¬ K a = K b by omega)]; rfl
  · rw [decide_eq_true h, decide_eq_false (show ¬ K a < K b by omega), decide_eq_false (show ¬ K b < K a by omega)]; rfl
  · rw [decide_eq_true h, decide_eq_false (show ¬ K a = K b by omega), Bool.not_true, Bool.and_false]
theorem ref15_same (a b : Nat) (w : World) : Calls Try.prog 15 #[.float .f64 a, .float .f64 b] w (Hands (.bool (decide (K a = K b))) w) := by
  have HA := Lib.hid (ref15_less a b)
  have HB := Lib.hid (ref15_less b a)
  rw [← same_of]
  generalize decide (K a < K b) = s at *
  generalize decide (K b < K a) = t at *
  go_enter Try.func15, Try.ntmps15
  go_wp2_with fail
  refine (HA.out _).mono ?_
  rintro e w1 ⟨rfl, n1, rfl⟩
  cases s
  · go_wp2_with fail
    refine (HB.out _).mono ?_
    rintro e w1 ⟨rfl, n2, rfl⟩
    go_wp2
    go_ret
    exact ⟨rfl, _, rfl⟩
  · go_wp2
    go_ret
    exact ⟨rfl, _, rfl⟩
/-- Held between two rates. -/
def clamp (x lo hi : Nat) : Nat := if IsNan x ∨ K x < K lo then lo else if K hi < K x then hi else x
theorem ref15_clamp (x lo hi : Nat) (w : World) : Calls Try.prog 19 #[.float .f64 x, .float .f64 lo, .float .f64 hi] w (Hands (.float .f64 (clamp x lo hi)) w) := by
  have HA := Lib.hid (ref15_nan x)
  have HB := Lib.hid (ref15_less x lo)
  have HC := Lib.hid (ref15_less hi x)
  unfold clamp
  by_cases h1 : IsNan x
  · rw [if_pos (.inl h1)]
    rw [decide_eq_true h1] at HA
    clear HB HC
    go_enter Try.func19, Try.ntmps19
    go_wp2_with fail
    refine (HA.out _).mono ?_
    rintro e w1 ⟨rfl, n1, rfl⟩
    go_wp2
    go_ret
    exact ⟨rfl, _, rfl⟩
  · rw [decide_eq_false h1] at HA
    by_cases h2 : K x < K lo
    · rw [if_pos (.inr h2)]
      rw [decide_eq_true h2] at HB
      clear HC
      go_enter Try.func19, Try.ntmps19
      go_wp2_with fail
      refine (HA.out _).mono ?_
      rintro e w1 ⟨rfl, n1, rfl⟩
      go_wp2_with fail
      refine (HB.out _).mono ?_
      rintro e w1 ⟨rfl, n2, rfl⟩
      go_wp2
      go_ret
      exact ⟨rfl, _, rfl⟩
    · rw [if_neg (by rintro (h | h); exact h1 h; exact h2 h)]
      rw [decide_eq_false h2] at HB
      by_cases h3 : K hi < K x
      · rw [if_pos h3]
        rw [decide_eq_true h3] at HC
        go_enter Try.func19, Try.ntmps19
        go_wp2_with fail
        refine (HA.out _).mono ?_
        rintro e w1 ⟨rfl, n1, rfl⟩
        go_wp2_with fail
        refine (HB.out _).mono ?_
        rintro e w1 ⟨rfl, n2, rfl⟩
        go_wp2_with fail
        refine (HC.out _).mono ?_
        rintro e w1 ⟨rfl, n3, rfl⟩
        go_wp2
        go_ret
        exact ⟨rfl, _, rfl⟩
      · rw [if_neg h3]
        rw [decide_eq_false h3] at HC
        go_enter Try.func19, Try.ntmps19
        go_wp2_with fail
        refine (HA.out _).mono ?_
        rintro e w1 ⟨rfl, n1, rfl⟩
        go_wp2_with fail
        refine (HB.out _).mono ?_
        rintro e w1 ⟨rfl, n2, rfl⟩
        go_wp2_with fail
        refine (HC.out _).mono ?_
        rintro e w1 ⟨rfl, n3, rfl⟩
        go_wp2
        go_ret
        exact ⟨rfl, _, rfl⟩
end Go.Proofs.Ytbgpgdbheajekaa

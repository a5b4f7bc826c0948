/-
  Part 8 of the texts that the seat's proofs stand on; each part of it begins with its own sentence and conditions. Conditions: those that each theorem names.
-/
import Derived.Test.YtjifionpblpfoaaDoorTellsPack7
import Derived.Deep.MidRow
import Derived.Laws.Cover3
import Derived.Lib.Hide
import Derived.Lib.SliceRun

/-
  Slices of numbers of one kind that read as a list, and such slices of a call's own: what append does with them. Conditions: the lengths add up to no more than 2^20.
-/
namespace Go.Proofs.YtjifionpblpfoaaDoor
open Go.RowKit
open Pol (co Sm)

/-- S is the type of slices of T, numbers of kind k. -/
structure NumT (S T : TypeId) (k : IntKind) : Prop where
  sl : Tryd.prog.underlying S = some (.slice T)
  info : ∃ m, m ≤ 8 ∧ 0 < m ∧ (Tryd.prog.info? T).map (fun i => (i.zero, i.size, i.bytes)) = some (some (.int k 0), 1, m)
  el : Tryd.prog.elem S = T
theorem nt64 : NumT 91 22 .u64 := ⟨Tryd.underlying91, ⟨8, by decide, by decide, by kernel_rfl⟩, by kernel_rfl⟩
theorem nt32 : NumT 93 72 .u32 := ⟨Tryd.underlying93, ⟨4, by decide, by decide, by kernel_rfl⟩, by kernel_rfl⟩

section
variable {S T : TypeId} {k : IntKind}
def nv (k : IntKind) (l : List Nat) : List Value := l.map fun x : Nat => Value.int k (x : Int)
theorem nv_len (l : List Nat) : (nv k l).length = l.length := by simp [nv]
theorem nv_at (l : List Nat) (i : Nat) (h : i < l.length) : (nv k l)[i]? = some (.int k ((co l i : Nat) : Int)) := by simp [nv, co, List.getElem?_eq_getElem h]
theorem nv_append (l m : List Nat) : nv k (l ++ m) = nv k l ++ nv k m := by simp [nv]
/-- From address A on lie the numbers l. -/
def NRd (k : IntKind) (w : World) (A : Option Addr) (l : List Nat) : Prop := ∀ i, i < l.length → ∃ b o, A = some ⟨b, o, none⟩ ∧ w.cell? ⟨b, o + i, none⟩ = some (.int k ((co l i : Nat) : Int))
theorem NRd.ext {w w' : World} {A : Option Addr} {l : List Nat} (h : NRd k w A l) (hx : Ext w w') : NRd k w' A l := fun i hi => by
  obtain ⟨b, o, e, hc⟩ := h i hi
  exact ⟨b, o, e, (hx.below.cell (p := ⟨b, o + i, none⟩) (block_lt_of_cell hc)).trans hc⟩
theorem NRd.nil (w : World) (A : Option Addr) : NRd k w A [] := fun i hi => absurd hi (by simp)
/-- A slice of numbers of the call's own. -/
def NMine (T : TypeId) (k : IntKind) (w : World) (base : Nat) (v : Value) (l : List Nat) : Prop := w.ownsRow base T 1 v l.length (nv k l)
theorem NMine.nil (w : World) (base : Nat) : NMine T k w base (.slice none 0 0) [] := World.ownsRow_nil w base _ _
theorem NMine.slice {w : World} {base : Nat} {v : Value} {l : List Nat} (h : NMine T k w base v l) : ∃ B c, v = .slice B l.length c ∧ l.length ≤ c ∧ NRd k w B l := by
  rcases h.2 with ⟨rfl, hn⟩ | ⟨g, cap, cur, rfl, _, hg, hnc, _, _, htake⟩
  · have : l = [] := List.eq_nil_of_length_eq_zero hn
    subst this
    exact ⟨none, 0, rfl, Nat.le_refl _, NRd.nil _ _⟩
  · refine ⟨_, cap, rfl, hnc, fun i hi => ⟨g, 0, rfl, ?_⟩⟩
    rw [Nat.zero_add, cell_of_row w g i cur _ _ hg, ← nv_at l i hi, ← htake, List.getElem?_take, if_pos (by omega)]
    simp
theorem NMine.ext {w w' : World} {base : Nat} {v : Value} {l : List Nat} (h : NMine T k w base v l) (hx : Ext w w') : NMine T k w' base v l :=
  World.ownsRow.kept h (row := none) ⟨hx.below.os, hx.below.tape, hx.below.output, hx.below.size, fun k hk _ => hx.below.block k hk⟩ (by
    cases hb : v.ownBlock with
    | none => exact .inl rfl
    | some k => exact .inr (by simp))
theorem NMine.keep {w w' : World} {base : Nat} {v : Value} {l : List Nat} {row : Option Nat} (h : NMine T k w base v l) (hg : w.grownBy w' row) (hne : ∀ k, v.ownBlock = some k → some k ≠ row) : NMine T k w' base v l :=
  World.ownsRow.kept h hg (by
    cases hb : v.ownBlock with
    | none => exact .inl rfl
    | some k => exact .inr (hne k hb))
theorem NMine.down {w : World} {base base' : Nat} {v : Value} {l : List Nat} (h : NMine T k w base v l) (hb : base' ≤ base) : NMine T k w base' v l :=
  ⟨h.1, h.2.imp id fun ⟨g, cap, cur, h1, h2, h3⟩ => ⟨g, cap, cur, h1, Nat.le_trans hb h2, h3⟩⟩
theorem NMine.block {w : World} {base : Nat} {v : Value} {l : List Nat} (h : NMine T k w base v l) : ∀ k, v.ownBlock = some k → base ≤ k ∧ k < w.heap.size := fun k hk => World.ownsRow.lt h k hk
theorem nmine_lit (w : World) (l : List Nat) (h : l.length ≤ 1048576) : NMine T k (w.alloc (.cells (nv k l).toArray T)) w.heap.size (.slice (some ⟨w.heap.size, 0, none⟩) l.length l.length) l := by
  have h1 := World.ownsRow_lit w (e := T) (size := 1) (base := w.heap.size) (nv k l).toArray l.length (Nat.le_refl _) (by unfold maxLen; omega) (by simp [nv_len])
  exact h1
theorem nrd_lit (w : World) (l : List Nat) : NRd k (w.alloc (.cells (nv k l).toArray T)) (some ⟨w.heap.size, 0, none⟩) l := fun i hi =>
  ⟨w.heap.size, 0, rfl, by
    rw [cell_of_row _ _ _ _ _ _ (heap_alloc_new w _), Nat.zero_add]
    simpa using nv_at l i hi⟩
set_option maxRecDepth 100000 in
theorem wpList_append_nums (nt : NumT S T k) {ops : Array Oper} {rest : List Oper} {o : Oper} {a : Act} {w : World} {Q : Exit → Act → World → Prop} (hgd : o.guard = none) (s x : Operand)
    (ho : o.op = .call { callee := .builtin .append, args := #[s, x], argTypes := #[S, S] })
    (base : Nat) (v : Value) (l m : List Nat) (hs : a.eval s = v) (hown : NMine T k w base v l) (b p n c : Nat) (hx : a.eval x = .slice (some ⟨b, p, none⟩) n c) (hn : m.length = n) (hr : ∀ i, i < m.length → w.cell? ⟨b, p + i, none⟩ = some (.int k ((co m i : Nat) : Int)))
    (hlen : l.length + m.length ≤ 1048576) (hbase : base ≤ w.heap.size)
    (h : ∀ v' w', NMine T k w' base v' (l ++ m) → w.grownBy w' v.ownBlock → (v'.ownBlock = v.ownBlock ∨ v'.ownBlock = some w.heap.size) → wpList Tryd.prog ops Q rest (a.put o.dst v') w') :
    wpList Tryd.prog ops Q (o :: rest) a w := by
  subst hn
  refine wpList_plain hgd fun K hK => ?_
  obtain ⟨z, hz8, hz0', hinf⟩ := nt.info
  obtain ⟨i0, hi, hz0, hz1, hz2⟩ := info_parts hinf
  obtain ⟨v', w', h1, h2, h3, _, h5⟩ := run_append_own_at (P := Tryd.prog) w base S o.type T i0 (.int k 0) 1 z nt.sl hi hz0 hz1 hz2 rfl (by omega) v l.length (nv k l) hown ⟨b, p, none⟩ m.length c (nv k m) (by rw [nv_len, Nat.mul_one])
    (fun j u hu => by
      have hj : j < m.length := by
        have := (List.getElem?_eq_some_iff.1 hu).1
        rwa [nv_len] at this
      rw [addr_add, hr j hj, ← nv_at m j hj, hu]) (fun u hu => by
      obtain ⟨y, _, rfl⟩ := List.mem_map.1 hu
      rfl) (by unfold maxLen; omega) (by
        have : (l.length + m.length) * z ≤ 1048576 * 8 := Nat.mul_le_mul hlen hz8
        omega) hbase
  unfold Oper.wp execOp
  simp only [ho, resolve, invoke, builtin, Sem.run_bind, Sem.run_pure, Result.andThen_ok, List.map_toArray, List.map_cons, List.map_nil, hs, hx, h1]
  exact hK _ _ (h v' w' (by unfold NMine; rw [List.length_append, nv_append]; exact h2) h3 h5)
/-- One number that a literal holds. -/
theorem one_num {w : World} {x : Nat} {T : TypeId} : ∀ i, i < [x].length → (w.alloc (.cells #[.int k (x : Int)] T)).cell? ⟨w.heap.size, 0 + i, none⟩ = some (.int k ((co [x] i : Nat) : Int)) := fun i hi => by
  have h0 : i = 0 := by simpa using hi
  subst h0
  rw [cell_of_row _ _ _ _ _ _ (heap_alloc_new w _)]
  rfl
end
end Go.Proofs.YtjifionpblpfoaaDoor

/-
  What the document's own times of layer 10 does. Conditions: no more than 2^16 digits.
-/
namespace Go.Proofs.YtjifionpblpfoaaDoor
open Go.RowKit
open Pol (co Sm)

/-- Numbers of a call's own. -/
def GivesN (k : IntKind) (T : TypeId) (l : List Nat) (w : World) (e : Ending) (w' : World) : Prop := ∃ v, e = .returned v ∧ NMine T k w' w.heap.size v l ∧ Ext w w'
theorem drop_co (l : List Nat) (i : Nat) (h : i < l.length) : l.drop i = co l i :: l.drop (i + 1) := by
  rw [List.drop_eq_getElem_cons h, show co l i = l[i] from by simp [co, List.getElem?_eq_getElem h]]

set_option maxHeartbeats 800000 in
set_option maxRecDepth 100000 in
theorem ref10_times (l : List Nat) (n : Nat) (b o c : Nat) (w : World) (hr : ∀ i, i < l.length → w.cell? ⟨b, o + i, none⟩ = some (.int .u64 ((co l i : Nat) : Int))) (hl : l.length ≤ 65536) (hd : Dg l) (hn : n < 1099511627776) :
    Calls Tryd.prog 68 #[.slice (some ⟨b, o, none⟩) l.length c, .int .u64 (n : Int)] w (GivesN .u64 22 (tms n 0 l) w) := by
  unfold GivesN
  have hok := tms_ok n (by omega) l 0 hd (Nat.zero_le _)
  have HLEN := Lib.hid hok.2.2
  have HD := Lib.hid hd
  have HR := Lib.hid hr
  obtain ⟨L, hL⟩ : ∃ L, l.length = L := ⟨_, rfl⟩
  have HL := Lib.hid hL
  rw [hL] at hl HLEN HR ⊢
  obtain ⟨V, hV⟩ : ∃ V, tms n 0 l = V := ⟨_, rfl⟩
  have HV := Lib.hid (show [] ++ tms n 0 (l.drop 0) = V from hV)
  rw [hV] at HLEN ⊢
  clear hr hL hV hok hd
  go_enter Tryd.func68, Tryd.ntmps68
  go_wp2
  go_loopg [5, 6, 7] V.length (fun g s5 s6 s7 wx => ∃ (i cy : Nat) (out : List Nat), out ++ tms n cy (l.drop i) = V ∧ (tms n cy (l.drop i)).length = g ∧ cy ≤ n ∧ out.length = i ∧ s7 = .int .i64 (i : Int) ∧ s6 = .int .u64 (cy : Int) ∧ NMine 22 .u64 wx w.heap.size s5 out ∧ Ext w wx)
  case atStart => exact ⟨0, 0, [], HV.out, by rw [← HV.out]; rfl, Nat.zero_le _, rfl, rfl, rfl, NMine.nil _ _, Ext.refl _⟩
  case round =>
    obtain ⟨i, cy, out, hov, hg, hcy, hiV, rfl, rfl, hm, hx⟩ := hrel
    have hVl : V.length ≤ 65540 := by have := HLEN.out; omega
    have HM := Lib.hid hm
    have HX := Lib.hid hx
    obtain ⟨B5, c5, rfl, hc5, _⟩ := hm.slice
    have hol : out.length + gk = V.length := by rw [← hov, List.length_append, hg]
    have hs := hx.size
    obtain ⟨lo, hlo⟩ : ∃ lo, out.length = lo := ⟨_, rfl⟩
    have HLO := Lib.hid hlo
    rw [hlo] at hol HM hc5 hiV ⊢
    have hiV2 := hiV.symm
    clear hiV
    subst hiV2
    clear hm hx hlo
    by_cases hi : i < L
    · have d1 : decide ((i : Int) < (L : Int)) = true := decide_eq_true (by omega)
      have hiI : (i : Int) < (L : Int) := by omega
      have hcell := (HX.out.below.cell (p := ⟨b, o + i, none⟩) (block_lt_of_cell (HR.out i hi))).trans (HR.out i hi)
      have hd16 : co l i < 65536 := HD.out.at i
      rw [drop_co l i (by rw [HL.out]; exact hi), tms_cons] at hov hg
      obtain ⟨dd, hdd⟩ : ∃ dd, co l i = dd := ⟨_, rfl⟩
      rw [hdd] at hcell hd16 hov hg
      obtain ⟨x1, hx1⟩ : ∃ x, dd * n = x := ⟨_, rfl⟩
      have hx1b : x1 ≤ 65535 * n := by rw [← hx1]; exact Nat.mul_le_mul_right _ (by omega)
      rw [hx1] at hov hg
      obtain ⟨x, hx⟩ : ∃ x, cy + x1 = x := ⟨_, rfl⟩
      rw [hx] at hov hg
      have e1 : (dd : Int) * (n : Int) = (x1 : Int) := by rw [← hx1]; exact (Int.natCast_mul dd n).symm
      have e2 : (cy : Int) + (x1 : Int) = (x : Int) := by omega
      obtain ⟨y, hy⟩ : ∃ y, x % 65536 = y := ⟨_, rfl⟩
      obtain ⟨z, hz⟩ : ∃ z, x / 65536 = z := ⟨_, rfl⟩
      rw [hy, hz] at hov hg
      have e3 : (x : Int) % 65536 = (y : Int) := by omega
      have e4 : (x : Int) / 65536 = (z : Int) := by omega
      have hzn : z ≤ n := by omega
      have hxb : x < 18446744073709551616 := by omega
      have hx1b2 : x1 < 18446744073709551616 := by omega
      have hyb : y < 65536 := by omega
      cases gk with
      | zero => rw [List.length_cons] at hg; omega
      | succ g =>
        have HOV := Lib.hid (show (out ++ [y]) ++ tms n z (l.drop (i + 1)) = V from by rw [List.append_assoc]; exact hov)
        have HG := Lib.hid (show (tms n z (l.drop (i + 1))).length = g from by rw [List.length_cons] at hg; omega)
        clear hov hg hdd hx1 hx hy hz
        go_wp2_with (at_builtin; refine wpList_append_nums nt64 rfl (.tmp 32) (.tmp 35) rfl w.heap.size (.slice B5 i c5) out [y] rfl (HM.out.ext ((Ext.refl _).alloc _)) wr.heap.size 0 1 1 rfl rfl one_num (by rw [HLO.out]; simp; omega) (by simp; omega) ?_; intro v7 w7 hown7 hg7 hat7; have HX7 := Lib.hid ((HX.out.alloc (.cells #[.int .u64 (y : Int)] 22)).more hg7 (fun q hq => (HM.out.block q hq).1)); have HM7 := Lib.hid hown7; clear hown7 hg7 hat7)
        go_roundg g
        case measure => omega
        case rel => exact ⟨i + 1, z, out ++ [y], HOV.out, HG.out, hzn, by rw [List.length_append, HLO.out]; rfl, by go_num, rfl, HM7.out, HX7.out⟩
    · have d1 : decide ((i : Int) < (L : Int)) = false := decide_eq_false (by omega)
      rw [List.drop_eq_nil_of_le (by rw [HL.out]; omega)] at hov hg
      by_cases h0 : cy = 0
      · subst h0
        rw [tms_zero, List.append_nil] at hov
        subst hov
        go_wp2
        go_ret
        exact ⟨_, rfl, HM.out, HX.out⟩
      · have d2 : decide (0 < (cy : Int)) = true := decide_eq_true (by omega)
        have d3 : decide (0 < cy) = true := decide_eq_true (by omega)
        rw [tms_more n cy h0] at hov hg
        obtain ⟨y, hy⟩ : ∃ y, cy % 65536 = y := ⟨_, rfl⟩
        obtain ⟨z, hz⟩ : ∃ z, cy / 65536 = z := ⟨_, rfl⟩
        rw [hy, hz] at hov hg
        have e3 : (cy : Int) % 65536 = (y : Int) := by omega
        have e4 : (cy : Int) / 65536 = (z : Int) := by omega
        have hzn : z ≤ n := by omega
        have hyb : y < 65536 := by omega
        cases gk with
        | zero => rw [List.length_cons] at hg; omega
        | succ g =>
          have HOV := Lib.hid (show (out ++ [y]) ++ tms n z (l.drop (i + 1)) = V from by rw [List.append_assoc, List.drop_eq_nil_of_le (by rw [HL.out]; omega)]; exact hov)
          have HG := Lib.hid (show (tms n z (l.drop (i + 1))).length = g from by rw [List.drop_eq_nil_of_le (by rw [HL.out]; omega)]; rw [List.length_cons] at hg; omega)
          clear hov hg hy hz
          go_wp2_with (at_builtin; refine wpList_append_nums nt64 rfl (.tmp 32) (.tmp 35) rfl w.heap.size (.slice B5 i c5) out [y] rfl (HM.out.ext ((Ext.refl _).alloc _)) wr.heap.size 0 1 1 rfl rfl one_num (by rw [HLO.out]; simp; omega) (by simp; omega) ?_; intro v7 w7 hown7 hg7 hat7; have HX7 := Lib.hid ((HX.out.alloc (.cells #[.int .u64 (y : Int)] 22)).more hg7 (fun q hq => (HM.out.block q hq).1)); have HM7 := Lib.hid hown7; clear hown7 hg7 hat7)
          go_roundg g
          case measure => omega
          case rel => exact ⟨i + 1, z, out ++ [y], HOV.out, HG.out, hzn, by rw [List.length_append, HLO.out]; rfl, by go_num, rfl, HM7.out, HX7.out⟩
end Go.Proofs.YtjifionpblpfoaaDoor

/-
  What the document's own above of layer 10 does. Conditions: no more than three factors, below 2^40.
-/
namespace Go.Proofs.YtjifionpblpfoaaDoor
open Go.RowKit
open Pol (co Sm)

/-- No block of one is the other's. -/
def NSp (u v : Value) : Prop := ∀ q, u.ownBlock = some q → v.ownBlock ≠ some q
theorem NSp.left {u u' v : Value} {n : Nat} (h : NSp u v) (ha : u'.ownBlock = u.ownBlock ∨ u'.ownBlock = some n) (hv : ∀ q, v.ownBlock = some q → q < n) : NSp u' v := fun q hq => by
  rcases ha with e | e
  · exact h q (e.symm.trans hq)
  · intro hv'
    rw [e] at hq
    injection hq with hq
    have := hv q hv'
    omega
theorem NSp.symm {u v : Value} (h : NSp u v) : NSp v u := fun q hq hu => h q hu hq
theorem prd_snoc : ∀ (l p : List Nat) (x : Nat), prd p (l ++ [x]) = tms x 0 (prd p l)
  | [], _, _ => rfl
  | f :: l, p, x => prd_snoc l (tms f 0 p) x
theorem tms_ne (n c : Nat) : ∀ l : List Nat, l ≠ [] → tms n c l ≠ []
  | [], h => absurd rfl h
  | d :: l, _ => by rw [tms_cons]; simp
theorem prd_ne : ∀ (fs p : List Nat), p ≠ [] → prd p fs ≠ []
  | [], _, h => h
  | f :: fs, p, h => prd_ne fs (tms f 0 p) (tms_ne f 0 p h)
theorem take_snoc (l : List Nat) (i : Nat) (h : i < l.length) : l.take (i + 1) = l.take i ++ [co l i] := by
  rw [List.take_succ_eq_append_getElem h, show co l i = l[i] from by simp [co, List.getElem?_eq_getElem h]]
theorem zs_succ (n : Nat) : zs (n + 1) = zs n ++ [0] := by unfold zs; rw [List.replicate_succ']
theorem zs_len (n : Nat) : (zs n).length = n := by simp [zs]
/-- A slice of the call's own that has an element shows where it lies. -/
theorem NMine.filled {T : TypeId} {k : IntKind} {w : World} {base : Nat} {v : Value} {l : List Nat} (h : NMine T k w base v l) (hl : l ≠ []) : ∃ g c, v = .slice (some ⟨g, 0, none⟩) l.length c ∧ l.length ≤ c ∧ base ≤ g ∧ g < w.heap.size ∧ ∀ i, i < l.length → w.cell? ⟨g, 0 + i, none⟩ = some (.int k ((co l i : Nat) : Int)) := by
  have hb := h.block
  obtain ⟨B, c, rfl, hc, hr⟩ := h.slice
  obtain ⟨b, o, rfl, hcell⟩ := hr 0 (List.length_pos_iff.2 hl)
  rcases h.2 with ⟨e, _⟩ | ⟨g, cap, cur, e, hg, _⟩
  · cases e
  · injection e with e1 _ _
    injection e1 with e1
    injection e1 with e1 e2
    subst e1; subst e2
    refine ⟨b, c, rfl, hc, (hb b rfl).1, (hb b rfl).2, fun i hi => ?_⟩
    obtain ⟨b', o', e', hc'⟩ := hr i hi
    injection e' with e'
    injection e' with e1 e2
    subst e1; subst e2
    exact hc'

set_option maxHeartbeats 1600000 in
set_option maxRecDepth 100000 in
theorem ref10_above (fs : List Nat) (p m : Nat) (b o c : Nat) (w : World) (hr : ∀ i, i < fs.length → w.cell? ⟨b, o + i, none⟩ = some (.int .u64 ((co fs i : Nat) : Int))) (hf : ∀ f ∈ fs, f < 1099511627776) (hfl : fs.length ≤ 3) (hp : p < 65536) (hm : m ≤ 3) :
    Calls Tryd.prog 65 #[.slice (some ⟨b, o, none⟩) fs.length c, .int .u64 (p : Int), .int .i64 (m : Int)] w (Tells (.bool (decide (p * 65536 ^ (2 * m) < fs.foldl (· * ·) 1))) w) := by
  have hpk := prd_ok fs [1] (fun f h => by have := hf f h; omega) (Dg.cons (by decide) Dg.nil)
  have HPK := Lib.hid hpk
  have HFI := Lib.hid (fun i (hi : i < fs.length) => show co fs i < 1099511627776 from by
    unfold co; rw [List.getElem?_eq_getElem hi]; exact hf _ (List.getElem_mem hi))
  have HTK := Lib.hid (fun i => prd_ok (fs.take i) [1] (fun f h => by have := hf f (List.mem_of_mem_take h); omega) (Dg.cons (by decide) Dg.nil))
  have HTS := Lib.hid (fun i (hi : i < fs.length) => show prd [1] (fs.take (i + 1)) = tms (co fs i) 0 (prd [1] (fs.take i)) from by rw [take_snoc fs i hi, prd_snoc])
  have HR := Lib.hid hr
  obtain ⟨F, hF⟩ : ∃ F, fs.length = F := ⟨_, rfl⟩
  have HF := Lib.hid hF
  have HFT := Lib.hid (show fs.take F = fs from by rw [← hF, List.take_length])
  rw [hF] at HFI HTS HR hfl ⊢
  obtain ⟨ans, hans⟩ : ∃ ans, decide (p * 65536 ^ (2 * m) < fs.foldl (· * ·) 1) = ans := ⟨_, rfl⟩
  have HANS := Lib.hid hans
  rw [hans]
  have HCN := Lib.hid (fun W => nmine_lit (k := .u64) (T := 22) W [1] (by decide))
  have HCP := Lib.hid (fun W => nmine_lit (k := .u64) (T := 22) W [p] (by simp))
  have HCZ := Lib.hid (fun W => nmine_lit (k := .u64) (T := 22) W [0] (by decide))
  clear hr hf hpk hF hans
  go_enter Tryd.func65, Tryd.ntmps65
  go_wp2
  go_loopg [7, 15] F (fun g s7 s15 wx => ∃ i : Nat, i + g = F ∧ s15 = .int .i64 (i : Int) ∧ NMine 22 .u64 wx w.heap.size s7 (prd [1] (fs.take i)) ∧ Ext w wx)
  case atStart => exact ⟨0, by omega, rfl, (HCN.out w), (Ext.refl w).alloc _⟩
  case round =>
    obtain ⟨i, hig, rfl, hmn, hx⟩ := hrel
    have HM := Lib.hid hmn
    have HX := Lib.hid hx
    cases gk with
    | zero =>
      obtain rfl : i = F := by omega
      rw [HFT.out] at HM
      obtain ⟨A, hA⟩ : ∃ A, prd [1] fs = A := ⟨_, rfl⟩
      rw [hA] at HM HPK
      have hAl : A.length ≤ 10 := by have h := HPK.out.2.2; rw [HF.out] at h; simp at h; omega
      have hAne : A ≠ [] := by rw [← hA]; exact prd_ne fs [1] (by simp)
      obtain ⟨g7, c7, rfl, hc7, hg7, hg7s, _⟩ := HM.out.filled hAne
      obtain ⟨La, hLa⟩ : ∃ La, A.length = La := ⟨_, rfl⟩
      have HLA := Lib.hid hLa
      rw [hLa] at HM hc7 hAl ⊢
      have e2m : 2 * (m : Int) = ((2 * m : Nat) : Int) := by omega
      obtain ⟨M, hM⟩ : ∃ M, 2 * m = M := ⟨_, rfl⟩
      have e2 : 2 * (m : Int) = (M : Int) := by omega
      have HMM := Lib.hid hM
      have hM6 : M ≤ 6 := by omega
      have HWS := Lib.hid hx.size
      have hAnz := hAne
      clear hig hmn hx hA hLa e2m hM hAne
      go_wp2
      obtain ⟨w1, hw1⟩ : ∃ q, q = wr := ⟨_, rfl⟩
      subst hw1
      go_loopg [9, 10] M (fun g s9 s10 wx => ∃ j : Nat, j + g = M ∧ s10 = .int .i64 (j : Int) ∧ NMine 22 .u64 wx w1.heap.size s9 (zs j ++ [p]) ∧ Ext w1 wx)
      case atStart => exact ⟨0, by omega, rfl, (HCP.out w1), (Ext.refl w1).alloc _⟩
      case round =>
        obtain ⟨j, hjg, rfl, hmn, hx⟩ := hrel
        have HM2 := Lib.hid hmn
        have HX2 := Lib.hid hx
        obtain ⟨g9, c9, rfl, hc9, hg9, hg9s, hcell9⟩ := hmn.filled (by simp)
        have hl9 : (zs j ++ [p]).length = j + 1 := by rw [List.length_append, zs_len]; rfl
        obtain ⟨L9, hL9⟩ : ∃ L9, (zs j ++ [p]).length = L9 := ⟨_, rfl⟩
        have HL9 := Lib.hid hL9
        have HC9 := Lib.hid hcell9
        have hs1 := hx.size
        have hws := HWS.out
        rw [hL9] at hc9 hl9 HM2 HC9 ⊢
        have HL9E := Lib.hid hl9
        have hL98 : L9 ≤ 7 := by omega
        clear hmn hx hcell9 hL9 hl9
        cases gk with
        | zero =>
          obtain rfl : j = M := by omega
          clear hjg
          have d1 : decide ((j : Int) < (j : Int)) = false := decide_eq_false (by omega)
          have HSP := Lib.hid (show NSp (.slice (some ⟨g7, 0, none⟩) La c7) (.slice (some ⟨g9, 0, none⟩) L9 c9) from fun q hq => by
            intro e
            have e1 : g7 = q := Option.some.inj hq
            have e2 : g9 = q := Option.some.inj e
            omega)
          have HM7 := Lib.hid (HM.out.ext HX2.out)
          have HX7 := Lib.hid (HX.out.trans HX2.out)
          go_wp2
          go_loopg [7] (L9 - La) (fun g s7 wx => ∃ x : Nat, L9 - (La + x) = g ∧ NMine 22 .u64 wx w.heap.size s7 (A ++ zs x) ∧ NMine 22 .u64 wx w1.heap.size (.slice (some ⟨g9, 0, none⟩) L9 c9) (zs j ++ [p]) ∧ NSp s7 (.slice (some ⟨g9, 0, none⟩) L9 c9) ∧ x ≤ 10 ∧ Ext w wx)
          case atStart => exact ⟨0, by omega, by rw [show zs 0 = [] from rfl, List.append_nil]; exact HM7.out, HM2.out, HSP.out, by omega, HX7.out⟩
          case round =>
            obtain ⟨x, hxg, hmp, hmw, hsp, hx10, hx⟩ := hrel
            have HMP := Lib.hid hmp
            have HMW := Lib.hid hmw
            have HSPX := Lib.hid hsp
            have HXX := Lib.hid hx
            have hwb := (hmw.block g9 rfl).2
            have hsz := hx.size
            have hAx : A ++ zs x ≠ [] := by
              intro e
              have := congrArg List.length e
              rw [List.length_append, HLA.out] at this
              have hA0 : 0 < La := by
                rcases Nat.eq_zero_or_pos La with h | h
                · exfalso
                  have hA0 : A = [] := List.eq_nil_of_length_eq_zero (HLA.out.trans h)
                  exact hAnz hA0
                · exact h
              simp at this
              omega
            obtain ⟨ga, ca, rfl, hca, hga, hgas, hcella⟩ := hmp.filled hAx
            have hlx : (A ++ zs x).length = La + x := by rw [List.length_append, zs_len, HLA.out]
            obtain ⟨Lx, hLx⟩ : ∃ Lx, (A ++ zs x).length = Lx := ⟨_, rfl⟩
            have HLX := Lib.hid hLx
            rw [hLx] at hlx hca HMP HSPX ⊢
            have HLXE := Lib.hid hlx
            have hLx20 : Lx ≤ 20 := by omega
            clear hmp hmw hsp hx hLx hAx hlx
            by_cases hlt : Lx < L9
            · have t1 : decide ((Lx : Int) < (L9 : Int)) = true := decide_eq_true (by omega)
              go_wp2_with (at_builtin; refine wpList_append_nums nt64 rfl (.tmp 41) (.tmp 42) rfl w.heap.size (.slice (some ⟨ga, 0, none⟩) Lx ca) (A ++ zs x) [0] rfl (HMP.out.ext ((Ext.refl wr).alloc _)) wr.heap.size 0 1 1 rfl rfl one_num (by rw [HLX.out]; simp; omega) (by simp; omega) ?_; intro v7 w7 hown7 hgg7 hat7; rw [List.append_assoc, ← zs_succ] at hown7; have HX8 := Lib.hid ((HXX.out.alloc (.cells #[.int .u64 0] 22)).more hgg7 (fun q hq => (HMP.out.block q hq).1)); have HM8 := Lib.hid hown7; have HW8 := Lib.hid ((HMW.out.ext ((Ext.refl wr).alloc (.cells #[.int .u64 0] 22))).keep hgg7 (fun q hq e => HSPX.out q e.symm hq)); have HS8 := Lib.hid (HSPX.out.left hat7 (fun q hq => by have h := (HMW.out.block q hq).2; simp; omega)); clear hown7 hgg7 hat7)
              go_roundg (L9 - (La + (x + 1)))
              case measure => have := HLXE.out; omega
              case rel => exact ⟨x + 1, rfl, HM8.out, HW8.out, HS8.out, by have := HLXE.out; omega, HX8.out⟩
            · have t1 : decide ((Lx : Int) < (L9 : Int)) = false := decide_eq_false (by omega)
              clear hxg
              obtain ⟨PL, hPL⟩ : ∃ PL, A ++ zs x = PL := ⟨_, rfl⟩
              have HPL := Lib.hid (show Dg PL ∧ dv PL = fs.foldl (· * ·) 1 from by
                rw [← hPL]
                refine ⟨HPK.out.2.1.app (dg_zs x), ?_⟩
                rw [dv_pad, HPK.out.1]
                simp [dv])
              obtain ⟨WL, hWL⟩ : ∃ WL, zs j ++ [p] = WL := ⟨_, rfl⟩
              have HWL := Lib.hid (show Dg WL ∧ dv WL = p * 65536 ^ (2 * m) from by
                rw [← hWL]
                exact ⟨(dg_zs j).app (Dg.cons hp Dg.nil), by rw [dv_lead, HMM.out]⟩)
              rw [hPL] at HMP HLX
              rw [hWL] at HMW HL9
              have hw1s : w.heap.size ≤ w1.heap.size := hws
              clear hPL hWL hca hga
              go_wp2
              go_loopg [9] (Lx - L9) (fun g s9 wx => ∃ y : Nat, Lx - (L9 + y) = g ∧ NMine 22 .u64 wx w1.heap.size s9 (WL ++ zs y) ∧ NMine 22 .u64 wx w.heap.size (.slice (some ⟨ga, 0, none⟩) Lx ca) PL ∧ NSp s9 (.slice (some ⟨ga, 0, none⟩) Lx ca) ∧ L9 + y ≤ Lx ∧ Ext w wx)
              case atStart => exact ⟨0, by omega, by rw [show zs 0 = [] from rfl, List.append_nil]; exact HMW.out, HMP.out, HSPX.out.symm, by omega, HXX.out⟩
              case round =>
                obtain ⟨y, hyg, hmw, hmp, hsp, hyl, hx⟩ := hrel
                have HMP2 := Lib.hid hmp
                have HMW2 := Lib.hid hmw
                have HSP2 := Lib.hid hsp
                have HX2' := Lib.hid hx
                have hsz2 := hx.size
                have hgab := (hmp.block ga rfl).2
                have hlw : (WL ++ zs y).length = L9 + y := by rw [List.length_append, zs_len, HL9.out]
                have hWne : WL ++ zs y ≠ [] := by
                  intro e
                  have h0 := congrArg List.length e
                  rw [hlw] at h0
                  have := HL9E.out
                  simp at h0
                  omega
                obtain ⟨gw, cw, rfl, hcw, hgw, hgws, hcellw⟩ := hmw.filled hWne
                have HCW := Lib.hid hcellw
                obtain ⟨Lw, hLw⟩ : ∃ Lw, (WL ++ zs y).length = Lw := ⟨_, rfl⟩
                have HLW := Lib.hid hLw
                have HLWE := Lib.hid (hLw.symm.trans hlw)
                rw [hLw] at hcw HMW2 HSP2 HCW ⊢
                have hLw20 : Lw ≤ Lx := by omega
                clear hmw hmp hsp hx hlw hWne hcellw hLw
                by_cases hlt2 : Lw < Lx
                · have t2 : decide ((Lw : Int) < (Lx : Int)) = true := decide_eq_true (by omega)
                  go_wp2_with (at_builtin; refine wpList_append_nums nt64 rfl (.tmp 49) (.tmp 50) rfl w1.heap.size (.slice (some ⟨gw, 0, none⟩) Lw cw) (WL ++ zs y) [0] rfl (HMW2.out.ext ((Ext.refl wr).alloc _)) wr.heap.size 0 1 1 rfl rfl one_num (by rw [HLW.out]; simp; omega) (by simp; omega) ?_; intro v7 w7 hown7 hgg7 hat7; rw [List.append_assoc, ← zs_succ] at hown7; have HX8 := Lib.hid ((HX2'.out.alloc (.cells #[.int .u64 0] 22)).more hgg7 (fun q hq => Nat.le_trans hw1s (HMW2.out.block q hq).1)); have HM8 := Lib.hid hown7; have HW8 := Lib.hid ((HMP2.out.ext ((Ext.refl wr).alloc (.cells #[.int .u64 0] 22))).keep hgg7 (fun q hq e => HSP2.out q e.symm hq)); have HS8 := Lib.hid (HSP2.out.left hat7 (fun q hq => by have h := (HMP2.out.block q hq).2; simp; omega)); clear hown7 hgg7 hat7)
                  go_roundg (Lx - (L9 + (y + 1)))
                  case measure => have := HLWE.out; omega
                  case rel => exact ⟨y + 1, rfl, HM8.out, HW8.out, HS8.out, by have := HLWE.out; omega, HX8.out⟩
                · have t2 : decide ((Lw : Int) < (Lx : Int)) = false := decide_eq_false (by omega)
                  obtain rfl : Lw = Lx := by omega
                  clear hyg hyl
                  obtain ⟨Q, hQ⟩ : ∃ Q, WL ++ zs y = Q := ⟨_, rfl⟩
                  have HQ := Lib.hid (show Dg Q ∧ dv Q = p * 65536 ^ (2 * m) from by
                    rw [← hQ, dv_pad]
                    exact ⟨HWL.out.1.app (dg_zs y), HWL.out.2⟩)
                  rw [hQ] at HLW HCW
                  obtain ⟨_, _, eP, _, _, _, hcellp⟩ := HMP2.out.filled (by
                    intro e
                    have h := HLX.out
                    rw [e] at h
                    have := HL9E.out
                    have := HLWE.out
                    simp at h
                    omega)
                  injection eP with eP1 eP2 eP3
                  clear eP2 eP3
                  injection eP1 with eP1
                  injection eP1 with eP1 eP2
                  clear eP2
                  subst eP1
                  rw [HLX.out] at hcellp
                  have HCP := Lib.hid hcellp
                  have HEQ := Lib.hid (show PL.length = Q.length from by rw [HLX.out, HLW.out])
                  clear hQ hcellp
                  go_wp2
                  obtain ⟨w4, hw4⟩ : ∃ q, q = wr := ⟨_, rfl⟩
                  subst hw4
                  go_loopg [11] Lw (fun g s11 wx => ∃ q : Nat, g ≤ Lw ∧ s11 = .int .i64 ((g : Int) - 1) ∧ (∀ i, g ≤ i → i < Lw → co PL i = co Q i) ∧ wx = w4.drewN q)
                  case atStart => exact ⟨0, Nat.le_refl _, rfl, fun i h1 h2 => by omega, rfl⟩
                  case round =>
                    obtain ⟨q, hgl, rfl, hsame, rfl⟩ := hrel
                    have HSA := Lib.hid hsame
                    clear hsame
                    cases gk with
                    | zero =>
                      have hA : false = ans := by
                        rw [← HANS.out]
                        symm
                        apply decide_eq_false
                        rw [← HQ.out.2, ← HPL.out.2, list_same PL Q HEQ.out (fun i hi => HSA.out i (Nat.zero_le _) (by rw [← HLX.out]; exact hi))]
                        omega
                      have HXF := Lib.hid (HX2'.out.drewN q)
                      subst hA
                      go_wp2
                      go_ret
                      exact ⟨rfl, HXF.out⟩
                    | succ g =>
                      have hgI : (g : Int) < (Lw : Int) := by omega
                      have eg : ((g + 1 : Nat) : Int) - 1 = (g : Int) := by omega
                      rw [eg]
                      have hc1 := HCP.out g (by omega)
                      have hc2 := HCW.out g (by omega)
                      rw [Nat.zero_add] at hc1 hc2
                      have d1 : decide ((0 : Int) ≤ (g : Int)) = true := decide_eq_true (by omega)
                      have HCMP := Lib.hid (fun h => dv_cmp PL Q HPL.out.1 HQ.out.1 HEQ.out g (by rw [HLX.out]; omega) (fun i h1 h2 => HSA.out i (by omega) (by rw [← HLX.out]; exact h2)) h)
                      obtain ⟨a1, ha1⟩ : ∃ a, co PL g = a := ⟨_, rfl⟩
                      obtain ⟨a2, ha2⟩ : ∃ a, co Q g = a := ⟨_, rfl⟩
                      have HA1 := Lib.hid ha1
                      have HA2 := Lib.hid ha2
                      rw [ha1] at hc1
                      rw [ha2] at hc2
                      rw [ha1, ha2] at HCMP
                      clear ha1 ha2 eg
                      by_cases haa : a1 = a2
                      · subst haa
                        have d2 : ((a1 : Int) != (a1 : Int)) = false := by simp
                        go_wp2
                        go_quiet (fail)
                        go_wp2
                        go_roundg g
                        case measure => omega
                        case rel => exact ⟨_, by omega, by go_num, fun i h1 h2 => (by
                          by_cases e : i = g
                          · rw [e, HA1.out, HA2.out]
                          · exact HSA.out i (by omega) h2), rfl⟩
                      · have d2 : ((a1 : Int) != (a2 : Int)) = true := by simp; omega
                        have d3 : decide (a1 = a2) = false := decide_eq_false haa
                        have d4 : ((a1 : Int) == (a2 : Int)) = false := by simp; omega
                        have hA : decide ((a2 : Int) < (a1 : Int)) = ans := by
                          rw [← HANS.out, ← HQ.out.2, ← HPL.out.2]
                          rw [decide_eq_decide]
                          rw [HCMP.out haa]
                          omega
                        by_cases hlt3 : (a2 : Int) < (a1 : Int)
                        · have d5 : decide ((a2 : Int) < (a1 : Int)) = true := decide_eq_true hlt3
                          have d6 : decide (a2 < a1) = true := decide_eq_true (by omega)
                          rw [d5] at hA
                          subst hA
                          go_wp2
                          go_quiet (fail)
                          go_wp2
                          go_quiet (fail)
                          go_wp2
                          go_ret
                          exact ⟨rfl, (((HX2'.out.drewN _).drewN _).drewN _)⟩
                        · have d5 : decide ((a2 : Int) < (a1 : Int)) = false := decide_eq_false hlt3
                          have d6 : decide (a2 < a1) = false := decide_eq_false (by omega)
                          rw [d5] at hA
                          subst hA
                          go_wp2
                          go_quiet (fail)
                          go_wp2
                          go_quiet (fail)
                          go_wp2
                          go_ret
                          exact ⟨rfl, (((HX2'.out.drewN _).drewN _).drewN _)⟩
        | succ g =>
          have d1 : decide ((j : Int) < (M : Int)) = true := decide_eq_true (by omega)
          have hjI : (j : Int) < (M : Int) := by omega
          have HZ := Lib.hid (show [0] ++ (zs j ++ [p]) = zs (j + 1) ++ [p] from rfl)
          go_wp2_with (at_builtin; refine wpList_append_nums nt64 rfl (.tmp 33) (.tmp 34) rfl wr.heap.size (.slice (some ⟨wr.heap.size, 0, none⟩) 1 1) [0] (zs j ++ [p]) rfl (HCZ.out wr) g9 0 L9 c9 rfl HL9.out (fun q hq => (((Ext.refl wr).alloc _).below.cell (p := ⟨g9, 0 + q, none⟩) (by show g9 < _; exact hg9s)).trans (HC9.out q (by rw [← HL9.out]; exact hq))) (by rw [HL9.out]; simp; omega) (by simp) ?_; intro v7 w7 hown7 hgg7 hat7; rw [HZ.out] at hown7; have HX7 := Lib.hid (HX2.out.trans (((Ext.refl wr).alloc (.cells #[.int .u64 0] 22)).more hgg7 (fun q hq => (by simp [Value.ownBlock] at hq; omega)))); have HM7 := Lib.hid (hown7.down hs1); clear hown7 hgg7 hat7)
          go_roundg g
          case measure => omega
          case rel => exact ⟨j + 1, by omega, by go_num, HM7.out, HX7.out⟩
    | succ g =>
      have hi : i < F := by omega
      have hiI : (i : Int) < (F : Int) := by omega
      have hcell := (hx.below.cell (p := ⟨b, o + i, none⟩) (block_lt_of_cell (HR.out i hi))).trans (HR.out i hi)
      have hne : prd [1] (fs.take i) ≠ [] := prd_ne _ [1] (by simp)
      obtain ⟨g7, c7, rfl, hc7, hg7, hg7s, hcell7⟩ := hmn.filled hne
      have hk := HTK.out i
      have hlen : (prd [1] (fs.take i)).length ≤ 10 := by
        have h := hk.2.2
        rw [List.length_take, HF.out] at h
        simp at h
        omega
      have HTI := Lib.hid (HTS.out i hi)
      have HTM := Lib.hid (ref10_times (prd [1] (fs.take i)) (co fs i) g7 0 c7 wr hcell7 (by omega) hk.2.1 (HFI.out i hi))
      have hfi := HFI.out i hi
      obtain ⟨f, hf⟩ : ∃ f, co fs i = f := ⟨_, rfl⟩
      rw [hf] at hcell HTI HTM hfi
      obtain ⟨Li, hLi⟩ : ∃ Li, (prd [1] (fs.take i)).length = Li := ⟨_, rfl⟩
      rw [hLi] at HTM ⊢
      clear hmn hx hcell7 hk hlen hf hLi hc7
      go_wp2_with fail
      refine HTM.out.mono ?_
      rintro e w2 ⟨v2, rfl, hm2, hx2⟩
      rw [← HTI.out] at hm2
      have HX2 := Lib.hid (HX.out.trans hx2)
      have HM2 := Lib.hid (hm2.down HX.out.size)
      clear hm2 hx2
      go_wp2
      go_roundg g
      case measure => omega
      case rel => exact ⟨i + 1, by omega, by go_num, HM2.out, HX2.out⟩
end Go.Proofs.YtjifionpblpfoaaDoor

/-
  What the walk of layer 10's digest reckons: the constants one by one, the padding, the length's bytes. Conditions: none; no function is named here.
-/
namespace Go.Proofs.YtjifionpblpfoaaDoor
open Go.RowKit
open Pol (co Sm)

theorem PR_len : PR.length = 64 := by decide
theorem PR_lt : ∀ i, co PR i < 65536 := fun i => by
  by_cases h : i < 64
  · have : ∀ i, i < 64 → co PR i < 65536 := by decide +kernel
    exact this i h
  · rw [Pol.co_out PR i (by rw [PR_len]; omega)]; omega
theorem co_map (f : Nat → Nat) (l : List Nat) (i : Nat) (h : i < l.length) : co (l.map f) i = f (co l i) := by
  unfold co
  rw [List.getElem?_map, List.getElem?_eq_getElem h]
  rfl
theorem map_snoc (f : Nat → Nat) (l : List Nat) (i : Nat) (h : i < l.length) : (l.map f).take (i + 1) = (l.map f).take i ++ [f (co l i)] := by
  rw [take_snoc _ i (by rw [List.length_map]; exact h), co_map f l i h]
theorem co_take (l : List Nat) (m i : Nat) (h : i < m) : co (l.take m) i = co l i := by
  unfold co
  rw [List.getElem?_take, if_pos h]
/-- The constants, one more. -/
theorem HH_snoc (i : Nat) (h : i < 8) : HH.take (i + 1) = HH.take i ++ [rtx 2 (co PR i) 37 0 % 4294967296] := by
  have e := map_snoc (fun p => rtx 2 p 37 0 % 4294967296) (PR.take 8) i (by rw [List.length_take, PR_len]; omega)
  rw [co_take PR 8 i h] at e
  exact e
theorem KK_snoc (i : Nat) (h : i < 64) : KK.take (i + 1) = KK.take i ++ [rtx 3 (co PR i) 37 0 % 4294967296] :=
  map_snoc (fun p => rtx 3 p 37 0 % 4294967296) PR i (by rw [PR_len]; exact h)
theorem HH_len : HH.length = 8 := by unfold HH; rw [List.length_map, List.length_take, PR_len]; rfl
theorem KK_len : KK.length = 64 := by unfold KK; rw [List.length_map, PR_len]

theorem padz_stop (n j : Nat) (h : j ≤ padz n) : (n + 1 + j) % 64 = 56 ↔ j = padz n := by
  unfold padz at h ⊢
  omega

theorem len8_at (n j v : Nat) (h : 8 * j + v = 56) : (n : Int) * 8 / 2 ^ min (IntKind.u64.wrap (v : Int)).toNat 64 % 256 = ((len8 n j : Nat) : Int) := by
  have e : v = 8 * (7 - j) := by omega
  have ew : (IntKind.u64.wrap (v : Int)).toNat = v := by rw [IntKind.wrap_u64]; omega
  have em : min v 64 = v := by omega
  rw [ew, em, e]
  unfold len8
  have ep : (2 : Nat) ^ (8 * (7 - j)) = 256 ^ (7 - j) := by rw [Nat.pow_mul]
  have ep' : (2 : Int) ^ (8 * (7 - j)) = ((256 ^ (7 - j) : Nat) : Int) := by rw [← ep]; simp
  rw [ep', Int.mul_comm]
  simp
end Go.Proofs.YtjifionpblpfoaaDoor

/-
  What through of layer 10 does: the state behind blocks. Conditions: whole blocks, no more than 2^20 bytes; the constants lie where they were laid.
-/
namespace Go.Proofs.YtjifionpblpfoaaDoor
open Go.RowKit
open Pol (co Sm)

/-- What is behind the first k. -/
def dr (t : List Nat) (k : Nat) : List Nat := tab (t.length - k) (fun j => co t (k + j))
theorem dr_len (t : List Nat) (k : Nat) : (dr t k).length = t.length - k := tab_len _ _
theorem dr_at (t : List Nat) (k j : Nat) (h : k + j < t.length) : co (dr t k) j = co t (k + j) := by unfold dr; rw [co_tab, if_pos (by omega)]
theorem dr_ext {a b : List Nat} (hl : a.length = b.length) (h : ∀ i, i < a.length → co a i = co b i) : a = b := by
  apply List.ext_getElem hl
  intro i h1 h2
  have := h i h1
  unfold co at this
  rw [List.getElem?_eq_getElem h1, List.getElem?_eq_getElem h2] at this
  exact this
theorem dr_zero (t : List Nat) : dr t 0 = t := dr_ext (by rw [dr_len]; rfl) (fun i hi => by rw [dr_len] at hi; rw [dr_at t 0 i (by omega), Nat.zero_add])
theorem dr_more (t : List Nat) (k l : Nat) : tab ((dr t k).length - l) (fun j => co (dr t k) (l + j)) = dr t (k + l) := by
  refine dr_ext (by rw [tab_len, dr_len, dr_len]; omega) (fun i hi => ?_)
  rw [tab_len, dr_len] at hi
  rw [co_tab, if_pos (by rw [dr_len]; exact hi), dr_at t k (l + i) (by omega), dr_at t (k + l) i (by omega), Nat.add_assoc]
theorem wof_word (t : List Nat) (a : Nat) : wof (fun j => co t (a + j)) = fun i => word t (a + 4 * i) := by
  funext i
  unfold wof word
  simp only [Nat.add_assoc]
/-- Sixty-four bytes of a slice, as an array. -/
theorem range_of {w : World} {b o : Nat} {l : List Nat} (h : Rd w (some ⟨b, o, none⟩) l) (h64 : 64 ≤ l.length) : w.rangeAt b o (bt 64 (co l)).toList := by
  intro j v hv
  have hj : j < 64 := by
    have := (List.getElem?_eq_some_iff.1 hv).1
    simpa [bt_size] using this
  have e := bt_at 64 (co l) j hj
  generalize bt 64 (co l) = V at hv e
  obtain ⟨b', o', e1, hc⟩ := h.2 j (by omega)
  rw [← Array.getElem?_toList, hv] at e
  injection e1 with e1
  injection e1 with e2 e3
  subst e2; subst e3
  rw [hc, e]
theorem info_state (f : Nat → Nat) : (Tryd.prog.info? 73).map (·.size) = some (dt 8 f).size := by rw [dt_size]; kernel_rfl
theorem zero_state : (∀ w, (zeroValue 73).run Tryd.prog w = .ok (.agg (dt 8 fun _ => 0)) w) ∧ (Tryd.prog.info? 73).map (·.size) = some 8 := by
  rw [dt_zero]
  exact zero_of_info (by kernel_rfl)

theorem dr_co (t : List Nat) (k : Nat) : co (dr t k) = fun j => co t (k + j) := by
  funext j
  unfold dr
  rw [co_tab]
  by_cases h : j < t.length - k
  · rw [if_pos h]
  · rw [if_neg h]
    unfold co
    rw [List.getElem?_eq_none (by omega)]
    rfl
/-- Where through stands: the state behind g, the result. -/
structure ThrW (f : Nat → Nat) (g : Nat) (w W : World) : Prop where
  x : Ext w W
  s : WBlk 73 8 W g f
  r : WBlk 73 8 W (g + 1) (fun _ => 0)
theorem ThrW.start (f : Nat → Nat) (w : World) : ThrW f w.heap.size w ((w.alloc (.cells (dt 8 f) 73)).alloc (.cells (dt 8 fun _ => 0) 73)) := by
  have e1 : w.heap.size + 1 = (w.alloc (.cells (dt 8 f) 73)).heap.size := by simp
  refine ⟨((Ext.refl w).alloc _).alloc _, ?_, ?_⟩
  · exact (WBlk.new w f).ext ((Ext.refl _).alloc _)
  · rw [e1]
    exact WBlk.new _ _
theorem ThrW.ext {f : Nat → Nat} {g : Nat} {w W W' : World} (h : ThrW f g w W) (hx : Ext W W') : ThrW f g w W' := ⟨h.x.trans hx, h.s.ext hx, h.r.ext hx⟩
theorem ThrW.store {f : Nat → Nat} {g : Nat} {w W : World} (h : ThrW f g w W) (hg : w.heap.size = g) (j v : Nat) : ThrW (upd f j v) g w (W.setCell ⟨g, j, none⟩ (.int .u32 (v : Int))) :=
  ⟨h.x.setCell (by rw [hg]; exact Nat.le_refl _) _, h.s.store j v, (heap_setCell_other W ⟨g, j, none⟩ (g + 1) _ (by simp)).trans h.r⟩
theorem ThrW.congr {f f' : Nat → Nat} {g : Nat} {w W : World} (h : ThrW f g w W) (hf : ∀ i, i < 8 → f i = f' i) : ThrW f' g w W := ⟨h.x, h.s.congr hf, h.r⟩
theorem ThrW.drewN {f : Nat → Nat} {g : Nat} {w W : World} (h : ThrW f g w W) (q : Nat) : ThrW f g w (W.drewN q) := ⟨h.x.drewN q, h.s, h.r⟩
def AfterT (u w : World) : Prop := Ext u w

set_option maxHeartbeats 3200000 in
set_option maxRecDepth 100000 in
theorem sh_through (S t : List Nat) (A : Option Addr) (ca : Nat) (w : World) (hgl : GL w) (hS : W32 S) (hSl : S.length = 8) (hr : Rd w A t) (hc : t.length ≤ ca) (h64 : t.length % 64 = 0) (hl : t.length ≤ 1048576) :
    Calls Tryd.prog 38 #[.agg (dt 8 (co S)), .slice A t.length ca] w (Tells (.agg (dt 8 (co (hsh S KK t (t.length / 64))))) w) := by
  obtain ⟨g, hg⟩ : ∃ g, w.heap.size = g := ⟨_, rfl⟩
  have HG := Lib.hid hg
  have hst := ThrW.start (co S) w
  rw [hg] at hst
  have HST := Lib.hid hst
  have HGL := Lib.hid (fun W (h : Ext w W) => hgl.ext h)
  have HSM := Lib.hid hr.1
  have HR := Lib.hid hr
  obtain ⟨n, hn⟩ : ∃ n, t.length = n := ⟨_, rfl⟩
  have HN := Lib.hid hn
  obtain ⟨M, hM⟩ : ∃ M, n / 64 = M := ⟨_, rfl⟩
  rw [hn] at hc h64 hl ⊢
  rw [hM]
  have HM := Lib.hid (show n = 64 * M by omega)
  have HHL := Lib.hid (fun m => hsh_len S KK t hSl m)
  have HHW := Lib.hid (fun m => hsh_w32 S KK t hS m)
  have HH0 := Lib.hid (show hsh S KK t 0 = S from rfl)
  have HHS := Lib.hid (fun m => show hsh S KK t (m + 1) = blk KK (fun i => word t (64 * m + 4 * i)) (hsh S KK t m) from rfl)
  obtain ⟨V0, hV0⟩ : ∃ V, dt 8 (co S) = V := ⟨_, rfl⟩
  rw [hV0]
  generalize hsh S KK t = H at *
  have hz : dt 8 (fun _ => 0) = #[.int .u32 0, .int .u32 0, .int .u32 0, .int .u32 0, .int .u32 0, .int .u32 0, .int .u32 0, .int .u32 0] := rfl
  rw [hV0, hz] at HST
  have HD0 := Lib.hid (show Rd w A (dr t 0) from by rw [dr_zero]; exact hr)
  clear hgl hS hSl hr hn hst hM h64 hV0
  go_enter Tryd.func38, Tryd.ntmps38
  go_wp2_with fail
  generalize (w.alloc (Obj.cells V0 73)).alloc (Obj.cells #[.int .u32 0, .int .u32 0, .int .u32 0, .int .u32 0, .int .u32 0, .int .u32 0, .int .u32 0, .int .u32 0] 73) = W3 at HST ⊢
  clear hz hg
  go_loopg [1] M (fun gk s1 wx => ∃ (m a N c : Nat) (X : Option Addr), m + gk = M ∧ a = 64 * m ∧ N = n - a ∧ s1 = .slice X N c ∧ N ≤ c ∧ Rd w X (dr t a) ∧ ThrW (co (H m)) g w wx)
  case atStart => exact ⟨0, 0, n, ca, A, by omega, rfl, rfl, rfl, hc, HD0.out, by rw [HH0.out]; exact HST.out⟩
  case round =>
    obtain ⟨m, a, N, c, X, hmg, hma, hN, rfl, hNc, hrd, hw⟩ := hrel
    have HW := Lib.hid hw
    have HMG := Lib.hid hmg
    have HMA := Lib.hid hma
    have HRD := Lib.hid hrd
    clear hw hrd
    cases gk with
    | zero =>
      have hN0 : N = 0 := by have := HM.out; omega
      have hNI : decide (0 < (N : Int)) = false := decide_eq_false (by omega)
      have hmM : m = M := by omega
      rw [hmM] at HW
      clear hN hmg hma hNc
      have HIN := Lib.hid (info_state (co (H M)))
      have HSZ := Lib.hid (show (dt 8 fun _ => 0).size = (dt 8 (co (H M))).size from by rw [dt_size, dt_size])
      have HON := Lib.hid (dt_one 8 (co (H M)))
      have HG3 := Lib.hid (setRow_heap wr (g + 1) _ (dt 8 (co (H M))) _ _ HW.out.r)
      have HX3 := Lib.hid (HW.out.x.setRow (g := g + 1) (by rw [HG.out]; omega) (dt 8 (co (H M))))
      have hs := HW.out.s
      have hr := HW.out.r
      unfold WBlk at hs hr
      have HS0 := Lib.hid hs
      have HR0 := Lib.hid hr
      clear hs hr
      obtain ⟨V, hV⟩ : ∃ V, dt 8 (co (H M)) = V := ⟨_, rfl⟩
      have HVE := Lib.hid (show Value.agg V = Value.agg (dt 8 (co (H M))) from by rw [hV])
      rw [hV] at HIN HSZ HON HG3 HX3 HS0
      clear hV
      generalize dt 8 (fun _ => 0) = Z at HSZ HR0
      go_wp2_with (first | (with_reducible refine wpList_load_row rfl 73 (.tmp 2) rfl g rfl 73 V (0, 0) _ HS0.out Tryd.underlying73 rfl HIN.out ?_) | refine wpList_store_all rfl 73 (.tmp 4) (.tmp 31) rfl (g + 1) Z V rfl rfl HR0.out HIN.out HSZ.out HON.out ?_)
      exact ⟨rfl, .agg V, results_cell_row Tryd.results38 _ _ (g + 1) 73 V (0, 0) _ rfl HG3.out Tryd.underlying73 rfl HIN.out, by rw [HVE.out], HX3.out⟩
    | succ gh =>
      have hN64 : 64 ≤ N := by have := HM.out; omega
      have hNb : N ≤ 1048576 := by omega
      have hNI : decide (0 < (N : Int)) = true := decide_eq_true (by omega)
      obtain ⟨X2, hx2, hxr, _⟩ := run_rest_u8 X N c 64 hN64 hNc
      rw [show ((64 : Nat) : Int) = 64 from rfl] at hx2
      have HA := Lib.hid (fun W => run_arrayAt (P := Tryd.prog) W 99 5 64 X N c Tryd.underlying99 hN64)
      have hB : Sm (dr t a) := HRD.out.1
      obtain ⟨G, hG⟩ : ∃ G, H m = G := ⟨_, rfl⟩
      have HGW := Lib.hid (show W32 G from by rw [← hG]; exact HHW.out m)
      have HGL8 := Lib.hid (show G.length = 8 from by rw [← hG]; exact HHL.out m)
      rw [hG] at HW
      have HGE := Lib.hid hG
      obtain ⟨bx, ox, eX, _⟩ := HRD.out.2 0 (by rw [dr_len, HN.out, ← hN]; omega)
      subst eX
      have HLD := Lib.hid (fun W (h : AfterT wr W) => run_loadAt_mid (P := Tryd.prog) W bx ox 99 (bt 64 (co (dr t a))).toList (.array 64 5) (range_of (HRD.out.ext (HW.out.x.trans h)) (by rw [dr_len, HN.out, ← hN]; exact hN64)) Tryd.underlying99 rfl (by rw [Array.length_toList]; exact info_block _))
      have HLS := Lib.hid (fun W (h : AfterT wr W) => run_load_all W g 73 (dt 8 (co G)) 8 72 Tryd.underlying73 ((HW.out.ext h).s) (info_state _))
      have HSC := Lib.hid (fun W => sh_schedule (co (dr t a)) W (fun i => hB i))
      have HMX := Lib.hid (fun W (h : AfterT wr W) => sh_mix G (wl (wof (co (dr t a))) 64) W (HGL.out W (HW.out.x.trans h)) HGW.out (wl_w32 _ (wof_lt (fun i => hB i)) 64))
      obtain ⟨WL, hWL⟩ : ∃ l, wl (wof (co (dr t a))) 64 = l := ⟨_, rfl⟩
      rw [hWL] at HSC HMX
      obtain ⟨R, hR⟩ : ∃ l, rds KK WL G 64 = l := ⟨_, rfl⟩
      rw [hR] at HMX
      have HWLE := Lib.hid (fun (_ : Unit) => hWL)
      have HRE := Lib.hid (fun (_ : Unit) => hR)
      simp only [Array.toArray_toList] at HLD
      obtain ⟨VB, hVB⟩ : ∃ V, bt 64 (co (dr t a)) = V := ⟨_, rfl⟩
      obtain ⟨VL, hVL⟩ : ∃ V, dt 64 (co WL) = V := ⟨_, rfl⟩
      obtain ⟨VG, hVG⟩ : ∃ V, dt 8 (co G) = V := ⟨_, rfl⟩
      have HIR := Lib.hid (info_state (co R))
      have HSR := Lib.hid (show (dt 8 fun _ => 0).size = (dt 8 (co R)).size from by rw [dt_size, dt_size])
      have HOR := Lib.hid (dt_one 8 (co R))
      have HZL := Lib.hid (show dt 8 (fun _ => 0) = #[.int .u32 0, .int .u32 0, .int .u32 0, .int .u32 0, .int .u32 0, .int .u32 0, .int .u32 0, .int .u32 0] from rfl)
      have HVR := Lib.hid (fun (i : Nat) (hi : i < 8) => show ∀ W, (Instr.index 73 (.agg (dt 8 (co R))) (.int .i64 (i : Int))).run Tryd.prog W = .ok (.int .u32 ((co R i : Nat) : Int)) W from fun W => idx_arr Tryd.underlying73 (by kernel_rfl) (by kernel_rfl) ⟨_, rfl⟩ _ i _ hi (dt_at 8 _ i hi) W)
      obtain ⟨VR, hVR⟩ : ∃ V, dt 8 (co R) = V := ⟨_, rfl⟩
      rw [hVB] at HLD HSC
      rw [hVL] at HSC HMX
      rw [hVG] at HLS HMX
      rw [hVR] at HMX HIR HSR HOR HVR
      have HNE := Lib.hid hN
      have HXR := Lib.hid hxr
      clear hVB hVL hVG hVR hWL hR hG hB hN hmg hma hxr
      go_wp2
      refine wp_region_plan (AfterT wr) [0, 1, 2, 3, 4, 5, 6] (.yes 0 (.yes 1 (.yes 2 (.yes 3 (.two 4 (.two 5 (.one 6 (.one 7 .done)) 6 (.one 5 (.one 7 .done))) 6 (.one 4 (.one 5 (.one 7 .done)))))))) (by kernel_rfl) (fun c a a' w e h => ⟨e ▸ h.1, h.2⟩) (by kernel_rfl) ((Ext.refl wr).drew) ?_
      refine plan_load rfl 73 (.tmp 2) rfl (.agg VG) (by first | rfl | go_simp) (fun W hW => HLS.out W hW) ?_
      refine plan_yes rfl (fun K hK => ?_); go_simp; refine ⟨_, fun _ _ => rfl, hK _ ?_⟩; clear hK K
      refine plan_toArray rfl 99 (.tmp 14) rfl (.pointer (some ⟨bx, ox, none⟩)) (by first | rfl | go_simp) (fun W hW => HA.out W) ?_
      refine plan_load rfl 99 (.tmp 15) rfl (.agg VB) (by first | rfl | go_simp) (fun W hW => HLD.out W hW) ?_
      refine plan_two rfl rfl (fun K hK => ?_) (fun K hK => ?_)
      · go_wp2_with fail
        refine (HSC.out _).mono ?_
        rintro e v4 ⟨rfl, hx4⟩
        have HX4 := Lib.hid (show AfterT wr v4 from Ext.trans ((Ext.refl wr).drew) hx4)
        clear hx4
        go_wp2
        refine ⟨fun _ => HX4.out, ?_⟩
        refine plan_two rfl rfl (fun K hK => ?_) (fun K hK => ?_)
        · go_wp2_with fail
          refine (HMX.out _ HX4.out).mono ?_
          rintro e v5 ⟨rfl, hx5⟩
          have HX5 := Lib.hid (show AfterT wr v5 from Ext.trans HX4.out hx5)
          clear hx5
          go_wp2
          refine ⟨fun _ => HX5.out, ?_⟩
          refine plan_one rfl (fun K hK => ?_)
          go_wp2
          have HX6 := Lib.hid (show AfterT wr (World.alloc v5 (.cells (dt 8 fun _ => 0) 73)) from Ext.alloc HX5.out _)
          have HB6 := Lib.hid (WBlk.new (T := 73) (n := 8) v5 (fun _ => 0))
          have HGX := Lib.hid (show wr.heap.size ≤ (v5).heap.size from Ext.size HX5.out)
          rw [HZL.out] at HX6 HB6
          refine ⟨fun _ => HX6.out, ?_⟩
          generalize hgx : (v5).heap.size = gx at HB6 HGX ⊢
          generalize World.alloc v5 _ = v6 at HX6 HB6 ⊢
          clear hgx
          refine plan_one rfl (fun K hK => ?_)
          have HG7 := Lib.hid (setRow_heap _ gx _ VR _ _ HB6.out)
          have HX7 := Lib.hid (Ext.setRow HX6.out HGX.out VR)
          have hb0 := HB6.out
          unfold WBlk at hb0
          have HB0 := Lib.hid hb0
          clear hb0
          go_wp2_with (with_reducible refine wpList_store_all rfl 73 (.tmp 5) (.tmp 18) rfl gx (dt 8 fun _ => 0) VR rfl rfl HB0.out HIR.out HSR.out HOR.out ?_)
          refine ⟨fun h => absurd h (by decide), ?_⟩
          unfold wpPlan
          obtain ⟨wz, hwz⟩ : ∃ q, World.setRow v6 gx VR = q := ⟨_, rfl⟩
          rw [hwz] at HG7 HX7 ⊢
          clear hwz
          have HWZ := Lib.hid (HW.out.ext HX7.out)
          go_wp2_with (with_reducible refine wpList_load_row rfl 73 (.tmp 5) rfl gx rfl 73 VR (0, 0) _ HG7.out Tryd.underlying73 rfl HIR.out ?_)
          go_loopg [20] 8 (fun gj s20 wx => ∃ j : Nat, j + gj = 8 ∧ s20 = .int .i64 (j : Int) ∧ ThrW (fun k => if k < j then sumw G R k else co G k) g w wx)
          case atStart => exact ⟨0, by omega, rfl, HWZ.out.congr (fun k _ => rfl)⟩
          case round =>
            obtain ⟨j, hjg, rfl, hj⟩ := hrel
            cases gk with
            | zero =>
              obtain rfl : j = 8 := by omega
              have HJ := Lib.hid hj
              clear hj hjg
              have HN2 := Lib.hid (HJ.out.congr (f' := co (H (m + 1))) (fun k hk => by
                rw [if_pos hk, HHS.out m, HGE.out, ← HMA.out]
                unfold blk
                rw [co_map _ _ _ (by rw [List.length_range]; exact hk), show co (List.range 8) k = k from by unfold co; rw [List.getElem?_range hk]; rfl, ← HRE.out (), ← HWLE.out (), dr_co, wof_word]))
              have HRX := Lib.hid (show Rd w X2 (dr t (a + 64)) from by
                have h := HXR.out w _ HRD.out (by rw [dr_len, HN.out, HNE.out])
                have e := dr_more t a 64
                rw [dr_len, HN.out, ← HNE.out] at e
                rw [e] at h
                exact h)
              go_wp2
              go_roundg gh
              case measure => exact Nat.lt_succ_self _
              case rel => exact ⟨m + 1, a + 64, N - 64, c - 64, X2, by have := HMG.out; omega, by have := HMA.out; omega, by have := HNE.out; omega, rfl, by omega, HRX.out, HN2.out⟩
            | succ gk =>
              have hj8 : j < 8 := by omega
              have hjI : (j : Int) < 8 := by omega
              have HJG := Lib.hid hjg
              have hcl := hj.s.cell j hj8
              have hfz := hj.s.frozen j
              rw [if_neg (Nat.lt_irrefl j)] at hcl
              have hix := HVR.out j hj8
              obtain ⟨z, hz⟩ : ∃ z, sumw G R j = z := ⟨_, rfl⟩
              have HU := Lib.hid (fun (_ : Unit) => hz)
              unfold sumw at hz
              have bG := HGW.out.at j
              generalize co G j = x at hcl hz bG
              generalize co R j = y at hix hz
              have HJ := Lib.hid hj
              clear hj hjg
              have hsum : IntKind.u32.wrap ((x : Int) + (y : Int)) = (z : Int) := by
                rw [← hz]
                rw [IntKind.wrap_u32]
                omega
              have HNX := Lib.hid ((HJ.out.store HG.out j z).congr (f' := fun k => if k < j + 1 then sumw G R k else co G k) (fun k _ => by
                unfold upd
                show (if k = j then z else if k < j then sumw G R k else co G k) = if k < j + 1 then sumw G R k else co G k
                by_cases e : k = j
                · subst e; rw [if_pos rfl, if_pos (Nat.lt_succ_self _), HU.out ()]
                · rw [if_neg e]
                  by_cases h : k < j
                  · rw [if_pos h, if_pos (by omega)]
                  · rw [if_neg h, if_neg (by omega)]))
              go_wp2
              go_roundg gk
              case measure => exact Nat.lt_succ_self _
              case rel => exact ⟨j + 1, by have := HJG.out; omega, by go_num, HNX.out⟩
        · go_wp2
          have HX6 := Lib.hid (show AfterT wr (World.alloc v4 (.cells (dt 8 fun _ => 0) 73)) from Ext.alloc HX4.out _)
          have HB6 := Lib.hid (WBlk.new (T := 73) (n := 8) v4 (fun _ => 0))
          have HGX := Lib.hid (show wr.heap.size ≤ (v4).heap.size from Ext.size HX4.out)
          rw [HZL.out] at HX6 HB6
          refine ⟨fun _ => HX6.out, ?_⟩
          generalize hgx : (v4).heap.size = gx at HB6 HGX ⊢
          generalize World.alloc v4 _ = v6 at HX6 HB6 ⊢
          clear hgx
          refine plan_one rfl (fun K hK => ?_)
          go_wp2_with fail
          refine (HMX.out _ HX6.out).mono ?_
          rintro e v5 ⟨rfl, hx5⟩
          have HX5 := Lib.hid (show AfterT wr v5 from Ext.trans HX6.out hx5)
          have HB5 := Lib.hid (WBlk.ext HB6.out hx5)
          clear hx5
          go_wp2
          refine ⟨fun _ => HX5.out, ?_⟩
          refine plan_one rfl (fun K hK => ?_)
          have HG7 := Lib.hid (setRow_heap _ gx _ VR _ _ HB5.out)
          have HX7 := Lib.hid (Ext.setRow HX5.out HGX.out VR)
          have hb0 := HB5.out
          unfold WBlk at hb0
          have HB0 := Lib.hid hb0
          clear hb0
          go_wp2_with (with_reducible refine wpList_store_all rfl 73 (.tmp 5) (.tmp 18) rfl gx (dt 8 fun _ => 0) VR rfl rfl HB0.out HIR.out HSR.out HOR.out ?_)
          refine ⟨fun h => absurd h (by decide), ?_⟩
          unfold wpPlan
          obtain ⟨wz, hwz⟩ : ∃ q, World.setRow v5 gx VR = q := ⟨_, rfl⟩
          rw [hwz] at HG7 HX7 ⊢
          clear hwz
          have HWZ := Lib.hid (HW.out.ext HX7.out)
          go_wp2_with (with_reducible refine wpList_load_row rfl 73 (.tmp 5) rfl gx rfl 73 VR (0, 0) _ HG7.out Tryd.underlying73 rfl HIR.out ?_)
          go_loopg [20] 8 (fun gj s20 wx => ∃ j : Nat, j + gj = 8 ∧ s20 = .int .i64 (j : Int) ∧ ThrW (fun k => if k < j then sumw G R k else co G k) g w wx)
          case atStart => exact ⟨0, by omega, rfl, HWZ.out.congr (fun k _ => rfl)⟩
          case round =>
            obtain ⟨j, hjg, rfl, hj⟩ := hrel
            cases gk with
            | zero =>
              obtain rfl : j = 8 := by omega
              have HJ := Lib.hid hj
              clear hj hjg
              have HN2 := Lib.hid (HJ.out.congr (f' := co (H (m + 1))) (fun k hk => by
                rw [if_pos hk, HHS.out m, HGE.out, ← HMA.out]
                unfold blk
                rw [co_map _ _ _ (by rw [List.length_range]; exact hk), show co (List.range 8) k = k from by unfold co; rw [List.getElem?_range hk]; rfl, ← HRE.out (), ← HWLE.out (), dr_co, wof_word]))
              have HRX := Lib.hid (show Rd w X2 (dr t (a + 64)) from by
                have h := HXR.out w _ HRD.out (by rw [dr_len, HN.out, HNE.out])
                have e := dr_more t a 64
                rw [dr_len, HN.out, ← HNE.out] at e
                rw [e] at h
                exact h)
              go_wp2
              go_roundg gh
              case measure => exact Nat.lt_succ_self _
              case rel => exact ⟨m + 1, a + 64, N - 64, c - 64, X2, by have := HMG.out; omega, by have := HMA.out; omega, by have := HNE.out; omega, rfl, by omega, HRX.out, HN2.out⟩
            | succ gk =>
              have hj8 : j < 8 := by omega
              have hjI : (j : Int) < 8 := by omega
              have HJG := Lib.hid hjg
              have hcl := hj.s.cell j hj8
              have hfz := hj.s.frozen j
              rw [if_neg (Nat.lt_irrefl j)] at hcl
              have hix := HVR.out j hj8
              obtain ⟨z, hz⟩ : ∃ z, sumw G R j = z := ⟨_, rfl⟩
              have HU := Lib.hid (fun (_ : Unit) => hz)
              unfold sumw at hz
              have bG := HGW.out.at j
              generalize co G j = x at hcl hz bG
              generalize co R j = y at hix hz
              have HJ := Lib.hid hj
              clear hj hjg
              have hsum : IntKind.u32.wrap ((x : Int) + (y : Int)) = (z : Int) := by
                rw [← hz]
                rw [IntKind.wrap_u32]
                omega
              have HNX := Lib.hid ((HJ.out.store HG.out j z).congr (f' := fun k => if k < j + 1 then sumw G R k else co G k) (fun k _ => by
                unfold upd
                show (if k = j then z else if k < j then sumw G R k else co G k) = if k < j + 1 then sumw G R k else co G k
                by_cases e : k = j
                · subst e; rw [if_pos rfl, if_pos (Nat.lt_succ_self _), HU.out ()]
                · rw [if_neg e]
                  by_cases h : k < j
                  · rw [if_pos h, if_pos (by omega)]
                  · rw [if_neg h, if_neg (by omega)]))
              go_wp2
              go_roundg gk
              case measure => exact Nat.lt_succ_self _
              case rel => exact ⟨j + 1, by have := HJG.out; omega, by go_num, HNX.out⟩
      · go_wp2
        have HX6 := Lib.hid (show AfterT wr (World.drew (World.alloc wr (.cells (dt 8 fun _ => 0) 73))) from (Ext.alloc (Ext.refl wr) _).drew)
        have HB6 := Lib.hid (show WBlk 73 8 (World.drew (World.alloc wr (.cells (dt 8 fun _ => 0) 73))) wr.heap.size (fun _ => 0) from WBlk.new (T := 73) (n := 8) wr (fun _ => 0))
        rw [HZL.out] at HX6 HB6
        refine ⟨fun _ => HX6.out, ?_⟩
        generalize hgx : wr.heap.size = gx at HB6 ⊢
        have HGX := Lib.hid (Nat.le_of_eq hgx)
        generalize (World.alloc wr _).drew = v6 at HX6 HB6 ⊢
        clear hgx
        refine plan_one rfl (fun K hK => ?_)
        go_wp2_with fail
        refine (HSC.out _).mono ?_
        rintro e v4 ⟨rfl, hx4⟩
        have HX4 := Lib.hid (show AfterT wr v4 from Ext.trans HX6.out hx4)
        have HB4 := Lib.hid (WBlk.ext HB6.out hx4)
        clear hx4
        go_wp2
        refine ⟨fun _ => HX4.out, ?_⟩
        refine plan_one rfl (fun K hK => ?_)
        go_wp2_with fail
        refine (HMX.out _ HX4.out).mono ?_
        rintro e v5 ⟨rfl, hx5⟩
        have HX5 := Lib.hid (show AfterT wr v5 from Ext.trans HX4.out hx5)
        have HB5 := Lib.hid (WBlk.ext HB4.out hx5)
        clear hx5
        go_wp2
        refine ⟨fun _ => HX5.out, ?_⟩
        refine plan_one rfl (fun K hK => ?_)
        have HG7 := Lib.hid (setRow_heap _ gx _ VR _ _ HB5.out)
        have HX7 := Lib.hid (Ext.setRow HX5.out HGX.out VR)
        have hb0 := HB5.out
        unfold WBlk at hb0
        have HB0 := Lib.hid hb0
        clear hb0
        go_wp2_with (with_reducible refine wpList_store_all rfl 73 (.tmp 5) (.tmp 18) rfl gx (dt 8 fun _ => 0) VR rfl rfl HB0.out HIR.out HSR.out HOR.out ?_)
        refine ⟨fun h => absurd h (by decide), ?_⟩
        unfold wpPlan
        obtain ⟨wz, hwz⟩ : ∃ q, World.setRow v5 gx VR = q := ⟨_, rfl⟩
        rw [hwz] at HG7 HX7 ⊢
        clear hwz
        have HWZ := Lib.hid (HW.out.ext HX7.out)
        go_wp2_with (with_reducible refine wpList_load_row rfl 73 (.tmp 5) rfl gx rfl 73 VR (0, 0) _ HG7.out Tryd.underlying73 rfl HIR.out ?_)
        go_loopg [20] 8 (fun gj s20 wx => ∃ j : Nat, j + gj = 8 ∧ s20 = .int .i64 (j : Int) ∧ ThrW (fun k => if k < j then sumw G R k else co G k) g w wx)
        case atStart => exact ⟨0, by omega, rfl, HWZ.out.congr (fun k _ => rfl)⟩
        case round =>
          obtain ⟨j, hjg, rfl, hj⟩ := hrel
          cases gk with
          | zero =>
            obtain rfl : j = 8 := by omega
            have HJ := Lib.hid hj
            clear hj hjg
            have HN2 := Lib.hid (HJ.out.congr (f' := co (H (m + 1))) (fun k hk => by
              rw [if_pos hk, HHS.out m, HGE.out, ← HMA.out]
              unfold blk
              rw [co_map _ _ _ (by rw [List.length_range]; exact hk), show co (List.range 8) k = k from by unfold co; rw [List.getElem?_range hk]; rfl, ← HRE.out (), ← HWLE.out (), dr_co, wof_word]))
            have HRX := Lib.hid (show Rd w X2 (dr t (a + 64)) from by
              have h := HXR.out w _ HRD.out (by rw [dr_len, HN.out, HNE.out])
              have e := dr_more t a 64
              rw [dr_len, HN.out, ← HNE.out] at e
              rw [e] at h
              exact h)
            go_wp2
            go_roundg gh
            case measure => exact Nat.lt_succ_self _
            case rel => exact ⟨m + 1, a + 64, N - 64, c - 64, X2, by have := HMG.out; omega, by have := HMA.out; omega, by have := HNE.out; omega, rfl, by omega, HRX.out, HN2.out⟩
          | succ gk =>
            have hj8 : j < 8 := by omega
            have hjI : (j : Int) < 8 := by omega
            have HJG := Lib.hid hjg
            have hcl := hj.s.cell j hj8
            have hfz := hj.s.frozen j
            rw [if_neg (Nat.lt_irrefl j)] at hcl
            have hix := HVR.out j hj8
            obtain ⟨z, hz⟩ : ∃ z, sumw G R j = z := ⟨_, rfl⟩
            have HU := Lib.hid (fun (_ : Unit) => hz)
            unfold sumw at hz
            have bG := HGW.out.at j
            generalize co G j = x at hcl hz bG
            generalize co R j = y at hix hz
            have HJ := Lib.hid hj
            clear hj hjg
            have hsum : IntKind.u32.wrap ((x : Int) + (y : Int)) = (z : Int) := by
              rw [← hz]
              rw [IntKind.wrap_u32]
              omega
            have HNX := Lib.hid ((HJ.out.store HG.out j z).congr (f' := fun k => if k < j + 1 then sumw G R k else co G k) (fun k _ => by
              unfold upd
              show (if k = j then z else if k < j then sumw G R k else co G k) = if k < j + 1 then sumw G R k else co G k
              by_cases e : k = j
              · subst e; rw [if_pos rfl, if_pos (Nat.lt_succ_self _), HU.out ()]
              · rw [if_neg e]
                by_cases h : k < j
                · rw [if_pos h, if_pos (by omega)]
                · rw [if_neg h, if_neg (by omega)]))
            go_wp2
            go_roundg gk
            case measure => exact Nat.lt_succ_self _
            case rel => exact ⟨j + 1, by have := HJG.out; omega, by go_num, HNX.out⟩
end Go.Proofs.YtjifionpblpfoaaDoor

/-
  What bytes.Clone does. Conditions: no more than 2^16 bytes.
-/
namespace Go.Proofs.YtjifionpblpfoaaDoor
open Go.RowKit
open Pol (co Sm)

/-- Bytes of a call's own that read as these. -/
def CloneS (t : List Nat) (w : World) (e : Ending) (w' : World) : Prop := Ext w w' ∧ ∃ v, e = .returned v ∧ Mine w' w.heap.size v t
set_option maxHeartbeats 800000 in
set_option maxRecDepth 100000 in
theorem cr_clone (t : List Nat) (A : Option Addr) (c : Nat) (w : World) (hr : Rd w A t) (hl : t.length ≤ 65536) : Calls Tryd.prog 59 #[.slice A t.length c] w (CloneS t w) := by
  unfold CloneS
  have HR := Lib.hid hr
  obtain ⟨n, hn⟩ : ∃ n, t.length = n := ⟨_, rfl⟩
  have HN := Lib.hid hn
  rw [hn] at hl ⊢
  have qn : ∀ (W : World) (B : Option Addr) (n c : Nat), (binOp .eql 23 (.slice B n c) (.slice none 0 0)).run Tryd.prog W = .ok (.bool B.isNone) W := fun W B n c => Lib.run_eql_slice_nil W _ _ B n c 0 0 Tryd.underlying23
  cases A with
  | none =>
    have ht : t = [] := by
      rcases Nat.eq_zero_or_pos t.length with h | h
      · exact List.eq_nil_of_length_eq_zero h
      · obtain ⟨_, _, e, _⟩ := hr.2 0 h; cases e
    have HT := Lib.hid ht
    clear hr hn ht
    go_enter Tryd.func59, Tryd.ntmps59
    go_wp2
    skip
    go_ret
    exact ⟨Ext.refl _, _, rfl, by rw [HT.out]; exact Mine.nil _ _⟩
  | some a =>
    have hx := (Ext.refl w).alloc (.cells #[] 5)
    have HX := Lib.hid hx
    have HM := Lib.hid (mine_empty w)
    clear hr hn hx
    go_enter Tryd.func59, Tryd.ntmps59
    go_wp2_with (at_builtin; refine wpList_append_rd rfl (.tmp 5) (.tmp 6) rfl w.heap.size (.slice (some ⟨w.heap.size, 0, none⟩) 0 0) [] t rfl HM.out (some a) n c rfl HN.out (HR.out.ext HX.out) (by rw [HN.out]; simp; omega) HX.out.size ?_; intro v' w3 hown' hg' hat'; rw [List.nil_append] at hown'; have HM2 := Lib.hid hown'; have HX2 := Lib.hid (HX.out.more hg' (fun k e => (HM.out.block k e).1)); clear hown' hg' hat')
    go_ret
    exact ⟨HX2.out, _, rfl, HM2.out⟩
end Go.Proofs.YtjifionpblpfoaaDoor

/-
  What ending of layer 10 does: the bytes behind the last whole block, filled up. Conditions: no more than 2^20 bytes in all; fewer than 64 are left.
-/
namespace Go.Proofs.YtjifionpblpfoaaDoor
open Go.RowKit
open Pol (co Sm)

/-- What stands behind an input of n bytes, of which r are left. -/
def endb (r : List Nat) (n : Nat) : List Nat := r ++ [128] ++ List.replicate (padz n) 0 ++ (List.range 8).map (len8 n)
theorem padz_mod (r n : Nat) (h : r = n % 64) : padz r = padz n := by
  subst h
  unfold padz
  omega
theorem endb_len (r : List Nat) (n : Nat) : (endb r n).length = r.length + 1 + padz n + 8 := by
  unfold endb
  simp only [List.length_append, List.length_singleton, List.length_replicate, List.length_map, List.length_range]
theorem endb_padded (t : List Nat) (k : Nat) : t.take k ++ endb (t.drop k) t.length = padded t := by
  unfold endb padded
  simp only [← List.append_assoc, List.take_append_drop]
theorem endb_sm {r : List Nat} (h : Sm r) (n : Nat) : Sm (endb r n) := by
  unfold endb
  refine sm_app (sm_app (sm_app h (Sm.cons (by omega) Sm.nil)) (Pol.co_lt_of fun x hx => by rw [(List.mem_replicate.1 hx).2]; omega)) (Pol.co_lt_of fun x hx => ?_)
  obtain ⟨q, _, rfl⟩ := List.mem_map.1 hx
  exact Nat.mod_lt _ (by decide)

set_option maxHeartbeats 1600000 in
set_option maxRecDepth 100000 in
theorem sh_ending (b : List Nat) (A : Option Addr) (ca N : Nat) (w : World) (hr : Rd w A b) (h64 : b.length = N % 64) (hN : N ≤ 1048576) :
    Calls Tryd.prog 39 #[.slice A b.length ca, .int .i64 (N : Int)] w (Gives (endb b N) w) := by
  obtain ⟨base, hbase⟩ : ∃ g, w.heap.size = g := ⟨_, rfl⟩
  have HB := Lib.hid hbase
  have HCL := Lib.hid (cr_clone b A ca w hr (by omega))
  have HE8 := Lib.hid (endb_sm hr.1 N)
  obtain ⟨n, hn⟩ : ∃ n, b.length = n := ⟨_, rfl⟩
  have HN := Lib.hid hn
  have HR := Lib.hid hr.1
  rw [hn] at h64 HCL ⊢
  have hn64 : n < 64 := by omega
  have HNM := Lib.hid h64
  have hpm := padz_mod n N h64
  clear hr hn h64 hbase
  go_enter Tryd.func39, Tryd.ntmps39
  go_wp2_with fail
  refine (HCL.out).mono ?_
  rintro e wc ⟨hxc, v7, rfl, hmc⟩
  rw [HB.out] at hmc
  have HX7 := Lib.hid hxc
  have HM7 := Lib.hid hmc
  clear hxc hmc
  go_wp2_with (at_builtin; refine wpList_append_rd rfl (.tmp 9) (.tmp 10) rfl base v7 b [128] rfl (mine_ext HM7.out ((Ext.refl _).alloc _)) (some ⟨wc.heap.size, 0, none⟩) 1 1 rfl rfl (rd_one wc 128 (by omega)) (by rw [HN.out]; simp; omega) (by have := HX7.out.size; have := HB.out; simp; omega) ?_; intro v8 w8 hown8 hg8 hat8; have HX8 := Lib.hid ((HX7.out.alloc (.cells #[.int .u8 128] 5)).more hg8 (fun q hq => by rw [HB.out]; exact (HM7.out.block q hq).1)); have HM8 := Lib.hid hown8; clear hown8 hg8 hat8)
  have HS8 := Lib.hid (show Sm (b ++ [128]) from sm_app HR.out (Sm.cons (by omega) Sm.nil))
  obtain ⟨pz, hpz⟩ : ∃ pz, padz n = pz := ⟨_, rfl⟩
  have hpz64 : pz < 64 := by rw [← hpz]; unfold padz; omega
  have HPZ := Lib.hid (fun j (h : j ≤ pz) => show (n + 1 + j) % 64 = 56 ↔ j = pz from by rw [← hpz] at h ⊢; exact padz_stop n j h)
  have HZP := Lib.hid (fun (_ : Unit) => show padz N = pz from by rw [← hpm, hpz])
  have HLZ := Lib.hid (fun j => show (b ++ [128] ++ List.replicate j 0).length = n + 1 + j from by simp [HN.out]; omega)
  have HZS := Lib.hid (fun j => show b ++ [128] ++ List.replicate (j + 1) 0 = b ++ [128] ++ List.replicate j 0 ++ [0] from by rw [List.replicate_succ', ← List.append_assoc])
  have HSZ := Lib.hid (fun j => show Sm (b ++ [128] ++ List.replicate j 0) from sm_app HS8.out (Pol.co_lt_of fun x hx => by rw [(List.mem_replicate.1 hx).2]; omega))
  have HM8' := Lib.hid (show Mine w8 base v8 (b ++ [128] ++ List.replicate 0 0) from by rw [List.replicate_zero, List.append_nil]; exact HM8.out)
  clear hpz hpm
  go_loopg [5] pz (fun gk s5 wx => ∃ j : Nat, j + gk = pz ∧ Mine wx base s5 (b ++ [128] ++ List.replicate j 0) ∧ Ext w wx)
  case atStart => exact ⟨0, by omega, HM8'.out, HX8.out⟩
  case round =>
    obtain ⟨j, hjg, hm, hx⟩ := hrel
    have HM := Lib.hid hm
    have HXX := Lib.hid hx
    obtain ⟨B7, c7, rfl, hc7, _⟩ := hm.slice (HSZ.out j)
    rw [HLZ.out] at hc7 HM ⊢
    have hs7 := hx.size
    rw [HB.out] at hs7
    have HJG := Lib.hid hjg
    clear hm hx
    obtain ⟨L, hL⟩ : ∃ L, n + 1 + j = L := ⟨_, rfl⟩
    have HL := Lib.hid hL
    have hz := HPZ.out j (by omega)
    rw [hL] at hc7 HM hz ⊢
    have hLb : L < 1048576 := by omega
    have em : (L : Int).tmod 64 = ((L % 64 : Nat) : Int) := by rw [Int.tmod_eq_emod_of_nonneg (by omega)]; omega
    clear hL
    cases gk with
    | zero =>
      obtain rfl : j = pz := by omega
      have hz' : L % 64 = 56 := hz.2 rfl
      have em' : (L : Int) % 64 = 56 := by omega
      clear hz hjg em hz'
      have ew : IntKind.u64.wrap (N : Int) = (N : Int) := by rw [IntKind.wrap_u64]; omega
      have ew8 : IntKind.u64.wrap (8 * (N : Int)) = (N : Int) * 8 := by rw [IntKind.wrap_u64]; omega
      go_wp2_with fail
      rw [← HZP.out ()] at HM
      have HMT := Lib.hid (show Mine wr base (.slice B7 L c7) (b ++ [128] ++ List.replicate (padz N) 0 ++ (List.range 0).map (len8 N)) from by rw [List.range_zero, List.map_nil, List.append_nil]; exact HM.out)
      have HXT := HXX
      have HST := Lib.hid (fun j => show Sm (b ++ [128] ++ List.replicate (padz N) 0 ++ (List.range j).map (len8 N)) from sm_app (HSZ.out _) (Pol.co_lt_of fun x hx => by
        obtain ⟨q, _, rfl⟩ := List.mem_map.1 hx
        exact Nat.mod_lt _ (by decide)))
      have HLT := Lib.hid (fun j => show (b ++ [128] ++ List.replicate (padz N) 0 ++ (List.range j).map (len8 N)).length = n + 1 + padz N + j from by rw [List.length_append, HLZ.out, List.length_map, List.length_range])
      have HTS := Lib.hid (fun j => show b ++ [128] ++ List.replicate (padz N) 0 ++ (List.range (j + 1)).map (len8 N) = b ++ [128] ++ List.replicate (padz N) 0 ++ (List.range j).map (len8 N) ++ [len8 N j] from by rw [List.range_succ, List.map_append, ← List.append_assoc]; rfl)
      have HV := Lib.hid (fun j => len8_at N j)
      have hp64 : padz N < 64 := by unfold padz; omega
      clear HM HXX hc7 hs7 hLb HL em' hpz64 ew ew8
      obtain ⟨wt, hwt⟩ : ∃ q, q = wr := ⟨_, rfl⟩
      subst hwt
      go_loopg [5, 22] 8 (fun gk s5 s22 wx => ∃ j : Nat, j + gk = 8 ∧ s22 = .int .i64 (j : Int) ∧ Mine wx base s5 (b ++ [128] ++ List.replicate (padz N) 0 ++ (List.range j).map (len8 N)) ∧ Ext w wx)
      case atStart => exact ⟨0, by omega, rfl, HMT.out, HXT.out⟩
      case round =>
        obtain ⟨j, hjg, rfl, hm, hx⟩ := hrel
        have HM := Lib.hid hm
        have HXX := Lib.hid hx
        obtain ⟨B7, c7, rfl, hc7, _⟩ := hm.slice (HST.out j)
        rw [HLT.out] at hc7 HM ⊢
        have hs7 := hx.size
        rw [HB.out] at hs7
        have HJG := Lib.hid hjg
        clear hm hx
        cases gk with
        | zero =>
          obtain rfl : j = 8 := by omega
          go_wp2
          go_ret
          exact gives_of HM.out rfl HE8.out HXX.out
        | succ gk =>
          have hj8 : j < 8 := by omega
          have hjI : (j : Int) < 8 := by omega
          obtain ⟨v, hv⟩ : ∃ v, 56 - 8 * j = v := ⟨_, rfl⟩
          have hvI : 56 - 8 * (j : Int) = (v : Int) := by omega
          have hq2 := HV.out j v (by omega)
          obtain ⟨d, hd⟩ : ∃ d, len8 N j = d := ⟨_, rfl⟩
          have hd8 : d < 256 := by rw [← hd]; exact Nat.mod_lt _ (by decide)
          have HTJ := Lib.hid (fun (_ : Unit) => HTS.out j)
          rw [hd] at HTJ hq2
          have hq3 : (N : Int) * 8 / 2 ^ v % 256 = (d : Int) := by
            have e : min (IntKind.u64.wrap (v : Int)).toNat 64 = v := by rw [IntKind.wrap_u64]; omega
            rw [e] at hq2
            exact hq2
          clear hq2
          have e1 : wrap64 (8 * (j : Int)) = 8 * (j : Int) := by unfold wrap64; omega
          have e2 : wrap64 (56 - 8 * (j : Int)) = (v : Int) := by unfold wrap64; omega
          obtain ⟨L, hL⟩ : ∃ L, n + 1 + padz N + j = L := ⟨_, rfl⟩
          have HL := Lib.hid hL
          rw [hL] at hc7 HM ⊢
          have hLb : L < 1048576 := by omega
          clear hL hd hv hjg
          go_wp2_with (at_builtin; refine wpList_append_rd rfl (.tmp 25) (.tmp 32) rfl base (.slice B7 L c7) (b ++ [128] ++ List.replicate (padz N) 0 ++ (List.range j).map (len8 N)) [d] rfl (mine_ext HM.out ((Ext.refl _).alloc _)) (some ⟨wr.heap.size, 0, none⟩) 1 1 rfl rfl (rd_one wr d hd8) (by rw [HLT.out, HL.out]; simp; omega) (by simp; omega) ?_; intro v9 w9 hown9 hg9 hat9; rw [← (HTJ.out ())] at hown9; have HX9 := Lib.hid ((HXX.out.alloc (.cells #[.int .u8 (d : Int)] 5)).more hg9 (fun q hq => by rw [HB.out]; exact (HM.out.block q hq).1)); have HM9 := Lib.hid hown9; clear hown9 hg9 hat9)
          go_roundg gk
          case measure => omega
          case rel => exact ⟨j + 1, by have := HJG.out; omega, by go_num, HM9.out, HX9.out⟩
    | succ gk =>
      have hz' : L % 64 ≠ 56 := fun h => by have := hz.1 h; omega
      have em' : (L : Int) % 64 ≠ 56 := by omega
      clear hz hjg em hz'
      go_wp2_with (at_builtin; refine wpList_append_rd rfl (.tmp 16) (.tmp 17) rfl base (.slice B7 L c7) (b ++ [128] ++ List.replicate j 0) [0] rfl (mine_ext HM.out ((Ext.refl _).alloc _)) (some ⟨wr.heap.size, 0, none⟩) 1 1 rfl rfl (rd_one wr 0 (by omega)) (by rw [HLZ.out, HL.out]; simp; omega) (by simp; omega) ?_; intro v9 w9 hown9 hg9 hat9; rw [← HZS.out] at hown9; have HX9 := Lib.hid ((HXX.out.alloc (.cells #[.int .u8 0] 5)).more hg9 (fun q hq => by rw [HB.out]; exact (HM.out.block q hq).1)); have HM9 := Lib.hid hown9; clear hown9 hg9 hat9)
      go_roundg gk
      case measure => omega
      case rel => exact ⟨j + 1, by have := HJG.out; omega, HM9.out, HX9.out⟩
end Go.Proofs.YtjifionpblpfoaaDoor

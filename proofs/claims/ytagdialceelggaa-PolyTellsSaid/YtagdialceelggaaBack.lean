/-
  What slices.Backward of a slice of bytes does for a loop: the places come from the last one down to 0, each with a value that may stand there. Conditions: no more than 2^40 bytes.
-/
import Derived.RangeFuncNested
import Derived.RangeFuncBox
import Derived.RangeFuncBound
import Derived.RangeFuncCalls
import Derived.RangeFuncLeaves
import Derived.Shelf.Abstract
import Derived.Shelf.RegionOpen
import Derived.WalkKit
import Derived.OwnWalkIn
import Derived.TacticsInMore
import Derived.LoopNIn
import Derived.LoopIn
import Derived.Test.YtagdialceelggaaAppend
namespace Go.Proofs.Ytagdialceelggaa
open Go.RowKit Go.Shelf
open Pol (co Sm)
attribute [local go_sem] Oper.semAt_some

/-- A place below n, with a value that may stand there. -/
abbrev Pl (n : Nat) (V : Nat → Nat → Prop) : Type := { x : Nat × Nat // x.1 < n ∧ V x.1 x.2 }
def plv {n : Nat} {V : Nat → Nat → Prop} (x : Pl n V) : Array Value := #[.int .i64 (x.1.1 : Int), .int .u8 (x.1.2 : Int)]
/-- At each place below n stands a value that may. -/
def HasA (V : Nat → Nat → Prop) (W : World) (A : Option Addr) (n : Nat) : Prop := ∀ i, i < n → ∃ b o v, A = some ⟨b, o, none⟩ ∧ V i v ∧ W.cell? ⟨b, o + i, none⟩ = some (.int .u8 ((v : Nat) : Int))
def downs (n k : Nat) : List Nat := (List.range k).map fun j => n - 1 - j
theorem downs_succ (n k : Nat) : downs n (k + 1) = downs n k ++ [n - 1 - k] := by simp [downs, List.range_succ]
theorem downs_len (n k : Nat) : (downs n k).length = k := by simp [downs]
theorem downs_mem (n k i : Nat) (h : i < n) (hk : n - 1 - i < k) : i ∈ downs n k := List.mem_map.2 ⟨n - 1 - i, List.mem_range.2 hk, by omega⟩
/-- What a round keeps: the slice's own box, and that each place has a value that may stand there. -/
def KpB (Bs : Nat) (s : Value) (V : Nat → Nat → Prop) (A : Option Addr) (n : Nat) (W W' : World) : Prop :=
  (W.cell? ⟨Bs, 0, none⟩ = some s → W'.cell? ⟨Bs, 0, none⟩ = some s) ∧ (HasA V W A n → HasA V W' A n)
theorem KpB.trans {Bs : Nat} {s : Value} {V : Nat → Nat → Prop} {A : Option Addr} {n : Nat} {X Y Z : World} (h : KpB Bs s V A n X Y) (k : KpB Bs s V A n Y Z) : KpB Bs s V A n X Z :=
  ⟨fun e => k.1 (h.1 e), fun e => k.2 (h.2 e)⟩
theorem KpB.below {Bs : Nat} {s : Value} {V : Nat → Nat → Prop} {A : Option Addr} {n n₀ : Nat} {W W' : World} (hb : Below n₀ W W') (h1 : Bs < n₀) (h2 : ∀ b o, A = some ⟨b, o, none⟩ → 0 < n → b < n₀) : KpB Bs s V A n W W' :=
  ⟨fun e => (hb.cell (p := ⟨Bs, 0, none⟩) h1).trans e, fun h i hi => by
    obtain ⟨b, o, v, e, hv, hc⟩ := h i hi
    exact ⟨b, o, v, e, hv, (hb.cell (p := ⟨b, o + i, none⟩) (h2 b o e (by omega))).trans hc⟩⟩
theorem KpB.put {Bs : Nat} {s : Value} {V : Nat → Nat → Prop} {A : Option Addr} {n : Nat} {w : World} (h1 : Bs < w.heap.size) (h2 : ∀ b o, A = some ⟨b, o, none⟩ → 0 < n → b < w.heap.size)
    (W : World) (l : Nat) (o o' : Obj) (hl : w.heap.size ≤ l) (h : W.heap[l]? = some o) (k1 : o.isCells = false) (k2 : o.isWalk = false) : KpB Bs s V A n W (W.putObj l o') :=
  KpB.below (belowK_b (w := w) (Nat.le_refl _) W l o o' hl h k1 k2) h1 h2

theorem far_block (a b : Nat) (o : Nat) (u : Nat) (h : a ≠ b) : (⟨a, o, none⟩ : Addr) ≠ ⟨b, u, none⟩ := fun e => by cases e; exact h rfl
theorem KpB.set {Bs : Nat} {s : Value} {V : Nat → Nat → Prop} {A : Option Addr} {n : Nat} (W : World) (g o : Nat) (v : Value) (h1 : g ≠ Bs) (h2 : ∀ b o, A = some ⟨b, o, none⟩ → 0 < n → g ≠ b) : KpB Bs s V A n W (W.setCell ⟨g, o, none⟩ v) :=
  ⟨fun e => (World.cell?_setCell_other _ _ _ _ (far_block g Bs o 0 h1)).trans e, fun h i hi => by
    obtain ⟨b, o', u, e, hv, hc⟩ := h i hi
    exact ⟨b, o', u, e, hv, (World.cell?_setCell_other _ _ _ _ (far_block g b o (o' + i) (h2 b o' e (by omega)))).trans hc⟩⟩
theorem keeps_drewN (W : World) (n : Nat) : KeepsOthers W (W.drewN n) := ⟨Nat.le_refl _, fun _ _ h _ => h⟩
theorem KpB.drewN {Bs : Nat} {s : Value} {V : Nat → Nat → Prop} {A : Option Addr} {n : Nat} (W : World) (k : Nat) : KpB Bs s V A n W (W.drewN k) := ⟨fun e => e, fun h => h⟩

def atI : Nat → Int
  | 0 => -1
  | g + 1 => (g : Int)
theorem atI_eq (g : Nat) : atI g = (g : Int) - 1 := by cases g <;> simp [atI]

set_option maxRecDepth 100000 in
set_option maxHeartbeats 2000000 in
theorem back1 (m : Nat) (hm : 1 ≤ m) (l Bs n cap : Nat) (A : Option Addr) (V : Nat → Nat → Prop) (hn : n ≤ 1099511627776) (J Jx : List (Pl n V) → World → Prop)
    (hY : ∀ pre x W, J pre W → pre.length < n → YieldAt Fence.wide (m - 1) Try.prog l (plv x) W fun e W' =>
      (e = .returned (.bool true) ∧ J (pre ++ [x]) W' ∧ KpB Bs (.slice A n cap) V A n W W') ∨ (e = .returned (.bool false) ∧ Jx (pre ++ [x]) W'))
    (W : World) (hBs : W.cell? ⟨Bs, 0, none⟩ = some (.slice A n cap)) (hc : HasA V W A n) (h0 : J [] W) :
    CallsIn Fence.wide m Try.prog 39 #[.func (.yield l) #[] #[], .pointer (some ⟨Bs, 0, none⟩)] W fun e W' => (∃ v, e = .returned v) ∧
      ((∃ ys : List (Pl n V), ys.map (fun x => x.1.1) = downs n n ∧ J ys W') ∨ (∃ pre : List (Pl n V), (∃ k, k ≤ n ∧ pre.map (fun x => x.1.1) = downs n k) ∧ Jx pre W')) := by
  have HC := Lib.hid hc
  have HB := Lib.hid hBs
  clear hc
  refine callsIn_of_wp Try.func39 rfl trivial ?_ rfl
  simp only [Try.ntmps39, List.size_toArray, List.length_cons, List.length_nil, Nat.reduceAdd, Nat.reduceSub, Array.replicate_succ, Array.replicate_zero, List.push_toArray, List.append_toArray, List.nil_append, List.cons_append]
  gi_wp2
  clear hBs
  gi_loopw [3] (fun i wr => ∃ (g : Nat) (pre : List (Pl n V)), pre.length + g = n ∧ i = .int .i64 (atI g) ∧ pre.map (fun x => x.1.1) = downs n pre.length ∧ J pre wr ∧ wr.cell? ⟨Bs, 0, none⟩ = some (.slice A n cap) ∧ HasA V wr A n)
    (fun i _ => (intOf i + 1).toNat)
  case atStart => exact ⟨n, [], by simp, by rw [atI_eq], rfl, h0, HB.out, HC.out⟩
  case round =>
    obtain ⟨g, pre, hpg, rfl, hpre, hJs, hb, hh⟩ := hrel
    have HH := Lib.hid hh
    have HP := Lib.hid hpre
    have HBB := Lib.hid hb
    clear hh hpre
    cases g with
    | zero =>
      dsimp only [atI]
      gi_wp2
      go_end0
      have hpl : pre.length = n := hpg
      exact ⟨⟨_, rfl⟩, .inl ⟨pre, by rw [HP.out, hpl], hJs⟩⟩
    | succ g =>
      have hgn : g < n := by omega
      obtain ⟨b, o, v, rfl, hv, hcl⟩ := HH.out g hgn
      obtain ⟨fn, tmps, assign, body, hy, hR⟩ := hY pre ⟨(g, v), hgn, hv⟩ wr hJs (by omega)
      dsimp only [plv] at hy
      dsimp only [atI]
      have hgI : (g : Int) < (n : Int) := by omega
      have hpx : (pre ++ [(⟨(g, v), hgn, hv⟩ : Pl n V)]).map (fun x => x.1.1) = downs n (pre ++ [(⟨(g, v), hgn, hv⟩ : Pl n V)]).length := by
        rw [List.map_append, HP.out, List.length_append, List.length_singleton, downs_succ]
        congr 1
        simp
        omega
      have HX := Lib.hid hpx
      clear hpx
      gi_wp2
      refine hR.mono ?_
      rintro e W3 (⟨rfl, hJ3, hk3⟩ | ⟨rfl, hJx3⟩)
      · gi_wp2
        go_roundw
        case rel => exact ⟨g, pre ++ [⟨(g, v), hgn, hv⟩], by simp; omega, congrArg (Value.int .i64) (atI_eq g).symm, HX.out, hJ3, hk3.1 HBB.out, hk3.2 HH.out⟩
        case measure => simp [intOf]
      · gi_wp2
        refine bodyPost_ret (results_none rfl _ _ _) rfl ?_
        exact ⟨⟨_, rfl⟩, .inr ⟨_, ⟨_, by simp; omega, HX.out⟩, hJx3⟩⟩

theorem back_stops (m : Nat) (hm : 1 ≤ m) (Bs n cap : Nat) (A : Option Addr) (V : Nat → Nat → Prop) (hn : n ≤ 1099511627776) (w : World) (hBs : Bs < w.heap.size) (hA : ∀ b o, A = some ⟨b, o, none⟩ → 0 < n → b < w.heap.size)
    (hc : w.cell? ⟨Bs, 0, none⟩ = some (.slice A n cap)) (hh : HasA V w A n) :
    SeqStopsK Fence.wide m Try.prog 39 #[.pointer (some ⟨Bs, 0, none⟩)] (plv (n := n) (V := V)) (KpB Bs (.slice A n cap) V A n) (fun ys => ys.map (fun x => x.1.1) = downs n n)
      (fun pre => ∃ k, k ≤ n ∧ pre.map (fun x => x.1.1) = downs n k) n w := fun l J Jx W hW _ _ hY h0 =>
  have hk := KpB.below (s := .slice A n cap) (V := V) (A := A) (n := n) hW hBs hA
  back1 m hm l Bs n cap A V hn J Jx hY W (hk.1 hc) (hk.2 hh) h0

set_option maxHeartbeats 1000000 in
/-- slices.Backward(s): the slice value is boxed; the function value captures the box. -/
theorem back_in (m : Nat) (a : Option Addr) (len cap : Nat) (w : World) :
    CallsIn Fence.wide m Try.prog 30 #[.slice a len cap] w fun e w' => e = .returned (.func (.func 39) #[] #[.pointer (some ⟨w.heap.size, 0, none⟩)]) ∧ w' = w.alloc (.cells #[.slice a len cap] 22) := by
  refine callsIn_of_wp Try.func30 rfl trivial ?_ rfl
  simp only [Try.ntmps30, List.size_toArray, List.length_cons, List.length_nil, Nat.reduceAdd, Nat.reduceSub, Array.replicate_succ, Array.replicate_zero, List.push_toArray, List.append_toArray, List.nil_append, List.cons_append]
  gi_wp2
  go_ret
  exact ⟨rfl, rfl⟩
theorem back_calls (a : Option Addr) (len cap : Nat) (w : World) :
    Calls Try.prog 30 #[.slice a len cap] w fun e w' => e = .returned (.func (.func 39) #[] #[.pointer (some ⟨w.heap.size, 0, none⟩)]) ∧ w' = w.alloc (.cells #[.slice a len cap] 22) :=
  (callsIn_wide (n := 1)).1 (back_in 1 a len cap w)
end Go.Proofs.Ytagdialceelggaa

/-
  What Divide of layer 2 does by the zero polynomial: it answers an error. Conditions: a field that New made, no more than 2^16 coefficients.
-/
import Derived.Test.YtagdialceelggaaPolySaid
import Derived.Test.YtagdialceelggaaPAddM
import Derived.RangeFuncBox
namespace Go.Proofs.Ytagdialceelggaa
open Go.RowKit
open Pol (co Sm trim)

theorem box_ext {w w' : World} {B : Nat} {t : TypeId} {v : Value} (h : Boxed w B t v) (hx : Ext w w') : Boxed w' B t v := (hx.below.block B h.lt).trans h
theorem box_far {w : World} {B g o : Nat} {t : TypeId} {v u : Value} (h : Boxed w B t v) (hne : B ≠ g) : Boxed (w.setCell ⟨g, o, none⟩ u) B t v := h.kept (grown_set w g o u) (fun e => hne (by cases e; rfl))
theorem box_drewN {w : World} {B : Nat} {t : TypeId} {v : Value} (h : Boxed w B t v) (n : Nat) : Boxed (w.drewN n) B t v := h
theorem box_alloc {w : World} {B : Nat} {t : TypeId} {v : Value} (h : Boxed w B t v) (o : Obj) : Boxed (w.alloc o) B t v := h.alloc o
theorem four_boxes (w : World) (t1 t2 t3 t4 : TypeId) (v1 v2 v3 v4 : Value) :
    Boxed ((((w.alloc (.cells #[v1] t1)).alloc (.cells #[v2] t2)).alloc (.cells #[v3] t3)).alloc (.cells #[v4] t4)) w.heap.size t1 v1 ∧
    Boxed ((((w.alloc (.cells #[v1] t1)).alloc (.cells #[v2] t2)).alloc (.cells #[v3] t3)).alloc (.cells #[v4] t4)) (w.heap.size + 1) t2 v2 ∧
    Boxed ((((w.alloc (.cells #[v1] t1)).alloc (.cells #[v2] t2)).alloc (.cells #[v3] t3)).alloc (.cells #[v4] t4)) (w.heap.size + 1 + 1) t3 v3 ∧
    Boxed ((((w.alloc (.cells #[v1] t1)).alloc (.cells #[v2] t2)).alloc (.cells #[v3] t3)).alloc (.cells #[v4] t4)) (w.heap.size + 1 + 1 + 1) t4 v4 := by
  have b1 := Boxed.new w t1 v1
  have b2 := Boxed.new (w.alloc (.cells #[v1] t1)) t2 v2
  have b3 := Boxed.new ((w.alloc (.cells #[v1] t1)).alloc (.cells #[v2] t2)) t3 v3
  have b4 := Boxed.new (((w.alloc (.cells #[v1] t1)).alloc (.cells #[v2] t2)).alloc (.cells #[v3] t3)) t4 v4
  simp only [World.size_alloc] at b2 b3 b4
  exact ⟨((b1.alloc _).alloc _).alloc _, (b2.alloc _).alloc _, b3.alloc _, b4⟩

set_option maxRecDepth 100000 in
set_option maxHeartbeats 1000000 in
theorem pdiv_zero (f : Nat) (a b : List Nat) (A B : Option Addr) (c d : Nat) (w : World) (hb : Rd w B b) (hcb : b.length ≤ d) (hlb : b.length ≤ 65536) (h0 : trim b = []) :
    Calls Try.prog 22 #[.pointer (some ⟨f, 0, none⟩), .slice A a.length c, .slice B b.length d] w (NoQuots w) := by
  have ht := fun u (hx : Ext w u) => ptrimmed b B d u (hb.ext hx) hcb hlb
  unfold Cuts at ht
  rw [h0, List.length_nil] at ht
  have HT := Lib.hid ht
  clear ht h0 hb
  go_enter Try.func22, Try.ntmps22
  go_wp2_with fail
  refine (HT.out _ ((((Ext.refl w).alloc _).alloc _).alloc _ |>.alloc _)).mono ?_
  rintro e w1 ⟨rfl, hx⟩
  obtain ⟨b1, b2, b3, b4⟩ := four_boxes w 24 22 22 22 (.pointer (some ⟨f, 0, none⟩)) (.slice B b.length d) (.slice none 0 0) (.slice none 0 0)
  have c2 := (box_ext b2 hx).cell
  have f2 := (box_ext b2 hx).frozen
  have k3 := box_far (box_ext b3 hx) (g := w.heap.size + 1) (o := 0) (u := .slice B 0 d) (by omega)
  have k4 := box_far (box_ext b4 hx) (g := w.heap.size + 1) (o := 0) (u := .slice B 0 d) (by omega)
  have k2 := (box_ext b2 hx).set (.slice B 0 d)
  have HX := Lib.hid ((((((Ext.refl w).alloc _).alloc _).alloc _ |>.alloc _).trans hx).setCell (p := ⟨w.heap.size + 1, 0, none⟩) (by simp) (.slice B 0 d))
  have HK3 := Lib.hid k3
  have HK4 := Lib.hid k4
  have HK2 := Lib.hid k2
  clear hx b1 b2 b3 b4 k2 k3 k4
  have c3 := HK3.out.cell
  have c4 := HK4.out.cell
  have f3 := HK3.out.frozen
  have f4 := HK4.out.frozen
  go_wp2_with fail
  have q3 := (box_far (HK3.out.set (.slice none 0 0)) (g := w.heap.size + 1 + 1 + 1) (o := 0) (u := .slice none 0 0) (by omega)).cell
  have q4 := ((box_far HK4.out (g := w.heap.size + 1 + 1) (o := 0) (u := .slice none 0 0) (by omega)).set (.slice none 0 0)).cell
  refine bodyPost_ret (v := .tuple #[.slice none 0 0, .slice none 0 0, .int .i64 1]) ?_ rfl ⟨_, _, rfl, ⟨none, 0, rfl, Nat.le_refl _, Rd.nil _ _⟩, ⟨none, 0, rfl, Nat.le_refl _, Rd.nil _ _⟩, ?_⟩
  · simp [results, Try.f22, go_sem, q3, q4]
  · exact (HX.out.setCell (p := ⟨w.heap.size + 1 + 1, 0, none⟩) (by simp; omega) _).setCell (p := ⟨w.heap.size + 1 + 1 + 1, 0, none⟩) (by simp; omega) _
end Go.Proofs.Ytagdialceelggaa

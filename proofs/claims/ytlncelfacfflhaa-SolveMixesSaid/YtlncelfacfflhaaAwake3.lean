/-
  The laws of layer 3 are awake, under what its functions are to do. Conditions: none.
-/
import Derived.Test.YtlncelfacfflhaaS3Said
namespace Go.Proofs.Ytlncelfacfflhaa
open Go.RowKit
open Pol (co Sm)
open Lin (SolSome SolNone Cnt NotFree)

theorem rrd_lit (w : World) (vs : List Value) (rows : List (List Nat)) (h : RowsV w vs rows) : RRd (w.alloc (.cells vs.toArray 27)) (some ⟨w.heap.size, 0, none⟩) rows := fun i hi => by
  obtain ⟨B, c, hv, hl, hr⟩ := h.2 i hi
  refine ⟨w.heap.size, 0, B, c, rfl, ?_, hl, hr.ext ((Ext.refl _).alloc _)⟩
  rw [cell_of_row _ _ _ _ _ _ (heap_alloc_new w _), Nat.zero_add]
  simpa using hv
theorem rrd_two (w : World) (r s : List Nat) (n : Nat) (hr : r.length = n) (hs : s.length = n) (h1 : Sm r) (h2 : Sm s) :
    RRd (((w.alloc (.cells (bv r).toArray 5)).alloc (.cells (bv s).toArray 5)).alloc (.cells #[.slice (some ⟨w.heap.size, 0, none⟩) n n, .slice (some ⟨w.heap.size + 1, 0, none⟩) n n] 27)) (some ⟨w.heap.size + 1 + 1, 0, none⟩) [r, s] := by
  have h := rrd_lit ((w.alloc (.cells (bv r).toArray 5)).alloc (.cells (bv s).toArray 5)) [.slice (some ⟨w.heap.size, 0, none⟩) n n, .slice (some ⟨w.heap.size + 1, 0, none⟩) n n] [r, s] ⟨rfl, fun i hi => by
    match i, hi with
    | 0, _ => exact ⟨_, n, by rw [show ro [r, s] 0 = r from rfl, hr]; rfl, by rw [show ro [r, s] 0 = r from rfl, hr]; exact Nat.le_refl _, (rd_lit w r h1).ext ((Ext.refl _).alloc _)⟩
    | 1, _ => exact ⟨_, n, by rw [show ro [r, s] 1 = s from rfl, hs]; rfl, by rw [show ro [r, s] 1 = s from rfl, hs]; exact Nat.le_refl _, rd_lit_next w _ s h2⟩⟩
  simpa using h
theorem rrd_one (w : World) (r : List Nat) (n : Nat) (hr : r.length = n) (h1 : Sm r) :
    RRd ((w.alloc (.cells (bv r).toArray 5)).alloc (.cells #[.slice (some ⟨w.heap.size, 0, none⟩) n n] 27)) (some ⟨w.heap.size + 1, 0, none⟩) [r] := by
  have h := rrd_lit (w.alloc (.cells (bv r).toArray 5)) [.slice (some ⟨w.heap.size, 0, none⟩) n n] [r] ⟨rfl, fun i hi => by
    match i, hi with
    | 0, _ => exact ⟨_, n, by rw [show ro [r] 0 = r from rfl, hr]; rfl, by rw [show ro [r] 0 = r from rfl, hr]; exact Nat.le_refl _, rd_lit w r h1⟩⟩
  simpa using h
theorem sm_of (l : List Nat) (h : l.all (· < 256) = true) : Sm l := Pol.co_lt_of fun x hx => by simpa using List.all_eq_true.1 h x hx

set_option maxHeartbeats 1000000 in
set_option maxRecDepth 100000 in
theorem awake3 (C : SolveSaid) (D : RankSaid) (w : World) : Calls Try.prog 10 #[] w (Holds w) := by
  have hl1 : ∀ i, i < ex1.length → (ro ex1 i).length ≤ 4096 := fun i hi => by
    match i, hi with
    | 0, _ => decide
    | 1, _ => decide
  have hl2 : ∀ i, i < ex2.length → (ro ex2 i).length ≤ 4096 := fun i hi => by
    match i, hi with
    | 0, _ => decide
  have HS1 := Lib.hid (fun f A u (hf : IsField u f) (hr : RRd u A ex1) => solve_is C f ex1 A 2 u hf hr (by decide) (by decide) hl1 ex1_rt [1, 2] ex1_sol)
  have HS2 := Lib.hid (fun f A u (hf : IsField u f) (hr : RRd u A ex2) => solve_no C f ex2 A 1 u hf hr (by decide) (by decide) hl2 ex2_rt ex2_none)
  have HR1 := Lib.hid (fun f A u (hf : IsField u f) (hr : RRd u A ex1) => D.rank f ex1 A 2 u hf hr (by decide) (by decide) hl1 ex1_rt 2 ex1_rank)
  have HX := Lib.hid (fun u => rrd_two u [1, 1, 3] [0, 1, 2] 3 rfl rfl (sm_of _ (by decide)) (sm_of _ (by decide)))
  have HY := Lib.hid (fun u => rrd_one u [0, 0, 1] 3 rfl (sm_of _ (by decide)))
  clear hl1 hl2
  go_enter Try.func10, Try.ntmps10
  go_wp2_with fail
  refine (new_any w).mono ?_
  rintro e w1 ⟨f, rfl, hf, hfs, hx1⟩
  have HF := Lib.hid hf
  have HX1 := Lib.hid hx1
  clear hf hx1
  go_wp2_with fail
  refine (HS1.out f _ _ (HF.out.ext ((((Ext.refl w1).alloc _).alloc _).alloc _)) (HX.out w1)).mono ?_
  rintro e w2 ⟨v, rfl, ⟨B, c, rfl, hc, hr⟩, hx2⟩
  have HR := Lib.hid hr
  have HX2 := Lib.hid (((((Ext.refl w1).alloc _).alloc _).alloc _).trans hx2)
  clear hr hx2
  go_wp2_with fail
  refine (HS2.out f _ _ ((HF.out.ext HX2.out).ext (((Ext.refl w2).alloc _).alloc _)) (HY.out w2)).mono ?_
  rintro e w3 ⟨v, rfl, ⟨B3, c3, rfl, hc3, hr3⟩, hx3⟩
  have HX3 := Lib.hid ((((Ext.refl w2).alloc _).alloc _).trans hx3)
  clear hr3 hx3
  go_wp2_with fail
  refine (HR1.out f _ _ ((HF.out.ext (HX2.out.trans HX3.out)).ext ((((Ext.refl w3).alloc _).alloc _).alloc _)) (HX.out w3)).mono ?_
  rintro e w4 ⟨rfl, hx4⟩
  have HX4 := Lib.hid (((((Ext.refl w3).alloc _).alloc _).alloc _).trans hx4)
  clear hx4
  go_wp2_with fail
  refine (same_tells [1, 2] B (some ⟨w4.heap.size, 0, none⟩) c 2 (w4.alloc (.cells (bv [1, 2]).toArray 5)) (HR.out.ext ((HX3.out.trans HX4.out).alloc _)) (rd_lit w4 [1, 2] (sm_of _ (by decide))) (by decide)).mono ?_
  rintro e w5 ⟨rfl, hx5⟩
  have HX5 := Lib.hid (((Ext.refl w4).alloc _).trans hx5)
  clear hx5
  go_wp2
  go_ret
  exact ⟨rfl, HX1.out.trans (HX2.out.trans (HX3.out.trans (HX4.out.trans HX5.out)))⟩
end Go.Proofs.Ytlncelfacfflhaa

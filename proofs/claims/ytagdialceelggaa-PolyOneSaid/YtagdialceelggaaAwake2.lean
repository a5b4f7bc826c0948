/-
  The first call of layer 2's statements, 'awake', answers true, if layer 2's own functions do what they are to do. Conditions: just that.
-/
import Derived.Test.YtagdialceelggaaPolySaid
namespace Go.Proofs.Ytagdialceelggaa
open Go.RowKit
open Pol (co Sm px py Apart thr trim)

theorem thr_doc : thr [(1, 1), (2, 2)] 2 = [0, 1] := by decide +kernel

theorem psm_doc : Pol.PSm [(1, 1), (2, 2)] := fun i => by
  match i with
  | 0 => exact ⟨by decide, by decide⟩
  | 1 => exact ⟨by decide, by decide⟩
  | n + 2 => simp [px, py]
theorem apart_doc : Apart [(1, 1), (2, 2)] 2 := fun i k h1 h2 => by
  have : i = 1 ∧ k = 0 := by omega
  obtain ⟨rfl, rfl⟩ := this
  decide
theorem sm_lit (l : List Nat) (h : ∀ x ∈ l, x < 256) : Sm l := Pol.co_lt_of h
/-- 0 0 1 by 1 1 is 1 1, and 1 is left. -/
theorem quot_doc (q r : List Nat) (hq : Sm q) (tq : trim q = q) (tr : trim r = r) (h : ∀ j, co (Pol.mulP q [1, 1]) j ^^^ co r j = co [0, 0, 1] j) (hl : r.length < (trim [1, 1]).length) : q = [1, 1] ∧ r = [1] := by
  have e1 : trim [1, 1] = [1, 1] := by decide
  have e2 : ∀ j, co (Pol.mulP [1, 1] [1, 1]) j ^^^ co [1] j = co [0, 0, 1] j := fun j => by
    have e3 : Pol.mulP [1, 1] [1, 1] = [1, 0, 1] := by decide +kernel
    rw [e3]
    match j with
    | 0 => decide
    | 1 => decide
    | 2 => decide
    | n + 3 => simp [co]
  rw [e1] at hl
  have hb0 : co [1, 1] 1 ≠ 0 := by decide
  have hbz : ∀ i, 1 < i → co [1, 1] i = 0 := fun i hi => Pol.co_out _ i (by simp only [List.length_cons, List.length_nil]; omega)
  have hd := Pol.div_two q [1, 1] [1, 1] r [1] 1 hq (sm_lit _ (by decide)) (sm_lit _ (by decide)) hb0 hbz
    (fun i hi => Pol.co_out r i (by simp at hl; omega)) (fun i hi => Pol.co_out _ i (by simpa using hi)) (fun j => by rw [h j, e2 j])
  refine ⟨?_, ?_⟩
  · rw [← tq, Pol.trim_ext q [1, 1] hd.1]; decide
  · rw [← tr, Pol.trim_ext r [1] hd.2]; decide

set_option maxHeartbeats 800000 in
set_option maxRecDepth 100000 in
theorem awake2 (C : PolySaid) (w : World) : Calls Try.prog 10 #[] w (Holds w) := by
  go_enter Try.func10, Try.ntmps10
  go_wp2_with fail
  refine (new_any _).mono ?_
  rintro e v0 ⟨f, rfl, hf, _, hx⟩
  have K1 := Lib.hid (hf)
  have K2 := Lib.hid (hx)
  clear hf hx
  go_wp2_with fail
  refine (C.through f [(1, 1), (2, 2)] (some ⟨v0.heap.size, 0, none⟩) 2 _ (K1.out.ext ((Ext.refl _).alloc _)) (prd_lit v0 _ psm_doc) (Nat.le_refl _) (by decide) apart_doc).mono ?_
  rintro e v1 ⟨v, rfl, hv, hx⟩
  have K3 := Lib.hid (K1.out.ext ((((Ext.refl _).alloc _)).trans hx))
  have K4 := Lib.hid (K2.out.trans ((((Ext.refl _).alloc _)).trans hx))
  clear K1 K2
  rw [show thr [(1, 1), (2, 2)] [(1, 1), (2, 2)].length = [0, 1] from thr_doc] at hv
  obtain ⟨B, c, rfl, _, hr⟩ := hv
  have K5 := Lib.hid (hr)
  clear hr hx
  go_wp2_with fail
  refine (C.div f [0, 0, 1] [1, 1] (some ⟨v1.heap.size, 0, none⟩) (some ⟨v1.heap.size + 1, 0, none⟩) 3 2 _ (K3.out.ext (((Ext.refl _).alloc _).alloc _)) ((rd_lit v1 [0, 0, 1] (sm_lit _ (by decide))).ext ((Ext.refl _).alloc _)) (rd_lit_next v1 _ [1, 1] (sm_lit _ (by decide))) (by decide) (by decide) (by decide) (by decide) (by decide)).mono ?_
  rintro e v2 ⟨vq, vr, q, r, rfl, hvq, hvr, tq, tr, hqr, hlen, _, hx⟩
  have K6 := Lib.hid (K3.out.ext (((((Ext.refl _).alloc _).alloc _)).trans hx))
  have K7 := Lib.hid (K4.out.trans (((((Ext.refl _).alloc _).alloc _)).trans hx))
  have K8 := Lib.hid (K5.out.ext (((((Ext.refl _).alloc _).alloc _)).trans hx))
  clear K3 K4 K5
  obtain ⟨Bq, cq, rfl, _, hrq⟩ := hvq
  obtain ⟨rfl, rfl⟩ := quot_doc q r hrq.1 tq tr hqr hlen
  obtain ⟨Br, cr, rfl, _, hrr⟩ := hvr
  have K9 := Lib.hid (hrq)
  have K10 := Lib.hid (hrr)
  clear hx tq tr hlen hrq hrr
  go_wp2_with fail
  refine (same_tells [0, 1] B (some ⟨v2.heap.size, 0, none⟩) c 2 _ (K8.out.ext ((Ext.refl _).alloc _)) (rd_lit v2 [0, 1] (sm_lit _ (by decide))) (by decide)).mono ?_
  rintro e v3 ⟨rfl, hx⟩
  have K11 := Lib.hid (K6.out.ext ((((Ext.refl _).alloc _)).trans hx))
  have K12 := Lib.hid (K7.out.trans ((((Ext.refl _).alloc _)).trans hx))
  have K13 := Lib.hid (K8.out.ext ((((Ext.refl _).alloc _)).trans hx))
  have K14 := Lib.hid (K9.out.ext ((((Ext.refl _).alloc _)).trans hx))
  have K15 := Lib.hid (K10.out.ext ((((Ext.refl _).alloc _)).trans hx))
  clear K6 K7 K8 K9 K10
  clear hx
  go_wp2_with fail
  refine (same_tells [1, 1] Bq (some ⟨v3.heap.size, 0, none⟩) cq 2 _ (K14.out.ext ((Ext.refl _).alloc _)) (rd_lit v3 [1, 1] (sm_lit _ (by decide))) (by decide)).mono ?_
  rintro e v4 ⟨rfl, hx⟩
  have K16 := Lib.hid (K11.out.ext ((((Ext.refl _).alloc _)).trans hx))
  have K17 := Lib.hid (K12.out.trans ((((Ext.refl _).alloc _)).trans hx))
  have K18 := Lib.hid (K13.out.ext ((((Ext.refl _).alloc _)).trans hx))
  have K19 := Lib.hid (K14.out.ext ((((Ext.refl _).alloc _)).trans hx))
  have K20 := Lib.hid (K15.out.ext ((((Ext.refl _).alloc _)).trans hx))
  clear K11 K12 K13 K14 K15
  clear hx
  go_wp2_with fail
  refine (same_tells [1] Br (some ⟨v4.heap.size, 0, none⟩) cr 1 _ (K20.out.ext ((Ext.refl _).alloc _)) (rd_lit v4 [1] (sm_lit _ (by decide))) (by decide)).mono ?_
  rintro e v5 ⟨rfl, hx⟩
  have K21 := Lib.hid (K16.out.ext ((((Ext.refl _).alloc _)).trans hx))
  have K22 := Lib.hid (K17.out.trans ((((Ext.refl _).alloc _)).trans hx))
  have K23 := Lib.hid (K18.out.ext ((((Ext.refl _).alloc _)).trans hx))
  have K24 := Lib.hid (K19.out.ext ((((Ext.refl _).alloc _)).trans hx))
  have K25 := Lib.hid (K20.out.ext ((((Ext.refl _).alloc _)).trans hx))
  clear K16 K17 K18 K19 K20
  clear hx
  go_wp2_with fail
  refine (C.degree [] none 0 _ (Rd.nil _ _) (by decide)).mono ?_
  rintro e v6 ⟨rfl, hx⟩
  have K26 := Lib.hid (K21.out.ext (hx))
  have K27 := Lib.hid (K22.out.trans (hx))
  have K28 := Lib.hid (K23.out.ext (hx))
  have K29 := Lib.hid (K24.out.ext (hx))
  have K30 := Lib.hid (K25.out.ext (hx))
  clear K21 K22 K23 K24 K25
  clear hx
  go_wp2_with fail
  go_ret
  exact ⟨rfl, K27.out⟩
end Go.Proofs.Ytagdialceelggaa

/-
  The walk of SolveTells, under what layer 3's functions are to do. Conditions: none beyond the kinds of the arguments.
-/
import Derived.Test.YtlncelfacfflhaaAwake3
namespace Go.Proofs.Ytlncelfacfflhaa
open Go.RowKit
open Pol (co Sm)
open Lin (SolSome SolNone Cnt NotFree)

theorem few_len {rows : List (List Nat)} (h : Few rows) : rows.length ≤ 4096 := by have := h.1; omega
theorem few_rows {rows : List (List Nat)} (h : Few rows) : ∀ i, i < rows.length → (ro rows i).length ≤ 4096 := fun i hi => by have := h.2 i hi; omega

set_option maxHeartbeats 1000000 in
set_option maxRecDepth 100000 in
theorem tells3_big (C : SolveSaid) (D : RankSaid) (rows : List (List Nat)) (A : Option Addr) (c : Nat) (w : World) (ha : RRd w A rows) (hmax : rows.length ≤ maxLen) (h : ¬ Few rows) :
    Calls Try.prog 3 #[.slice A rows.length c] w (Holds w) := by
  have HFW := Lib.hid (fun u (hu : Ext w u) => few_says rows A c u (ha.ext hu) hmax)
  have HH := Lib.hid h
  clear ha h
  generalize rows.length = n at *
  go_enter Try.func3, Try.ntmps3
  go_wp2_with fail
  refine (awake3 C D w).mono ?_
  rintro e w1 ⟨rfl, hx1⟩
  have HX1 := Lib.hid hx1
  clear hx1
  go_wp2_with fail
  refine (HFW.out w1 HX1.out).mono ?_
  rintro e w2 (⟨hp, _⟩ | ⟨_, rfl, q, rfl⟩)
  · exact absurd hp HH.out
  · go_wp2_with fail
    refine (awake3 C D (w1.drewN q)).mono ?_
    rintro e w3 ⟨rfl, hx3⟩
    have HX3 := Lib.hid (((HX1.out).drewN q).trans hx3)
    clear hx3
    go_wp2
    go_ret
    exact ⟨rfl, HX3.out⟩

set_option maxHeartbeats 1000000 in
set_option maxRecDepth 100000 in
theorem tells3_odd (C : SolveSaid) (D : RankSaid) (rows : List (List Nat)) (A : Option Addr) (c : Nat) (w : World) (ha : RRd w A rows) (hc : rows.length ≤ c) (h : Few rows) (ht : ¬ Rt rows) :
    Calls Try.prog 3 #[.slice A rows.length c] w (Holds w) := by
  have HFW := Lib.hid (fun u (hu : Ext w u) => few_says rows A c u (ha.ext hu) (by unfold maxLen; have := h.1; omega))
  have HSO := Lib.hid (fun f u (hf : IsField u f) (hu : Ext w u) => C.odd f rows A c u hf (ha.ext hu) hc (few_len h) (few_rows h) ht)
  have HRF := Lib.hid (fun u (hu : Ext w u) => ref_solve_odd rows A c u (ha.ext hu) (by have := h.1; omega) (fun i hi => by have := h.2 i hi; omega) ht)
  have HRK := Lib.hid (fun f u (hf : IsField u f) (hu : Ext w u) => D.odd f rows A c u hf (ha.ext hu) hc (few_len h) (few_rows h) ht)
  have HRT := Lib.hid (fun u (hu : Ext w u) => ref_right rows A c u (ha.ext hu) (by have := h.1; omega) (fun i hi => by have := h.2 i hi; omega))
  have HH := Lib.hid h
  have HT := Lib.hid ht
  clear ha h ht
  generalize rows.length = n at *
  go_enter Try.func3, Try.ntmps3
  go_wp2_with fail
  refine (awake3 C D w).mono ?_
  rintro e w1 ⟨rfl, hx1⟩
  have HX1 := Lib.hid hx1
  clear hx1
  go_wp2_with fail
  refine (HFW.out w1 HX1.out).mono ?_
  rintro e w2 (⟨_, rfl, q, rfl⟩ | ⟨hp, _⟩)
  rotate_left
  · exact absurd HH.out hp
  go_wp2_with fail
  refine (new_any (w1.drewN q)).mono ?_
  rintro e w3 ⟨f, rfl, hf, hfs, hx3⟩
  have HF := Lib.hid hf
  have HX3 := Lib.hid ((HX1.out.drewN q).trans hx3)
  clear hf hx3
  go_wp2_with fail
  refine (HSO.out f w3 HF.out HX3.out).mono ?_
  rintro e w4 ⟨v, rfl, ⟨B, cB, rfl, hcB, hrB⟩, hx4⟩
  have HB := Lib.hid hrB
  have HX4 := Lib.hid (HX3.out.trans hx4)
  have HF4 := Lib.hid (HF.out.ext hx4)
  clear hrB hx4
  go_wp2_with fail
  refine (HRF.out w4 HX4.out).mono ?_
  rintro e w5 ⟨v, rfl, ⟨E, cE, rfl, hcE, hrE⟩, hx5⟩
  have HE := Lib.hid hrE
  have HX45 := Lib.hid hx5
  have HX5 := Lib.hid (HX4.out.trans hx5)
  have HF5 := Lib.hid (HF4.out.ext hx5)
  clear hrE hx5
  go_wp2_with fail
  refine (HRK.out f w5 HF5.out HX5.out).mono ?_
  rintro e w6 ⟨rfl, hx6⟩
  have HX6 := Lib.hid (HX5.out.trans hx6)
  have HX56 := Lib.hid hx6
  clear hx6
  go_wp2_with fail
  refine (HRT.out w6 HX6.out).mono ?_
  rintro e w7 (⟨hp, _⟩ | ⟨_, rfl, q7, rfl⟩)
  · exact absurd hp HT.out
  go_wp2_with fail
  refine (same_tells [] B E cB cE (w6.drewN q7) (HB.out.ext ((HX45.out.trans HX56.out).drewN q7)) (HE.out.ext (HX56.out.drewN q7)) (by decide)).mono ?_
  rintro e w8 ⟨rfl, hx8⟩
  have HX8 := Lib.hid ((HX6.out.drewN q7).trans hx8)
  clear hx8
  go_wp2
  go_ret
  exact ⟨rfl, HX8.out⟩

set_option maxHeartbeats 1000000 in
set_option maxRecDepth 100000 in
theorem tells3_right (C : SolveSaid) (D : RankSaid) (rows : List (List Nat)) (A : Option Addr) (c : Nat) (w : World) (ha : RRd w A rows) (hc : rows.length ≤ c) (h : Few rows) (ht : Rt rows) (x : List Nat) (k : Int) (hxl : x.length ≤ 4096)
    (HSO : Hid (∀ (f : Nat) (u : World), IsField u f → Ext w u → Calls Try.prog 13 #[.pointer (some ⟨f, 0, none⟩), .slice A rows.length c] u (GivesE x k u)))
    (HRF : Hid (∀ u : World, Ext w u → Calls Try.prog 14 #[.slice A rows.length c] u (GivesE x k u))) :
    Calls Try.prog 3 #[.slice A rows.length c] w (Holds w) := by
  have hm := ht.1
  have HFW := Lib.hid (fun u (hu : Ext w u) => few_says rows A c u (ha.ext hu) (by unfold maxLen; have := h.1; omega))
  obtain ⟨d, hd⟩ := Lin.cnt_is (NotFree (KR (wide rows) rows)) (wide rows)
  have hwl : wide rows ≤ 12 := h.2 0 hm
  have HRK := Lib.hid (fun f u (hf : IsField u f) (hu : Ext w u) => D.rank f rows A c u hf (ha.ext hu) hc (few_len h) (few_rows h) ht d hd)
  have HRT := Lib.hid (fun u (hu : Ext w u) => ref_right rows A c u (ha.ext hu) (by have := h.1; omega) (fun i hi => by have := h.2 i hi; omega))
  have HRD := Lib.hid (fun u (hu : Ext w u) => ref_reduce rows A c (wide rows) (wide rows) u (ha.ext hu) hm (by have := h.1; omega) (fun i hi => (ht.2 i hi).2) (by omega) (Nat.le_refl _))
  obtain ⟨b0, o0, B0, c0, hA0, hc0, _, _⟩ := ha 0 hm
  have hc0' : w.cell? ⟨b0, o0, none⟩ = some (.slice B0 (wide rows) c0) := hc0
  subst hA0
  have HD := Lib.hid hd
  have HH := Lib.hid h
  have HT := Lib.hid ht
  have HC0 := Lib.hid hc0'
  clear ha h ht hd hc0 hc0'
  generalize KR (wide rows) rows = K at *
  generalize wide rows = N at *
  generalize rows.length = n at *
  have hmI : (0 : Int) < (n : Int) := by omega
  obtain ⟨lx, hlx⟩ : ∃ lx, x.length = lx := ⟨_, rfl⟩
  go_enter Try.func3, Try.ntmps3
  go_wp2_with fail
  refine (awake3 C D w).mono ?_
  rintro e w1 ⟨rfl, hx1⟩
  have HX1 := Lib.hid hx1
  clear hx1 hlx
  go_wp2_with fail
  refine (HFW.out w1 HX1.out).mono ?_
  rintro e w2 (⟨_, rfl, q, rfl⟩ | ⟨hp, _⟩)
  rotate_left
  · exact absurd HH.out hp
  go_wp2_with fail
  refine (new_any (w1.drewN q)).mono ?_
  rintro e w3 ⟨f, rfl, hf, hfs, hx3⟩
  have HF := Lib.hid hf
  have HX3 := Lib.hid ((HX1.out.drewN q).trans hx3)
  clear hf hx3
  go_wp2_with fail
  refine (HSO.out f w3 HF.out HX3.out).mono ?_
  rintro e w4 ⟨v, rfl, ⟨B, cB, rfl, hcB, hrB⟩, hx4⟩
  have HB := Lib.hid hrB
  have HX4 := Lib.hid (HX3.out.trans hx4)
  have HF4 := Lib.hid (HF.out.ext hx4)
  clear hrB hx4
  go_wp2_with fail
  refine (HRF.out w4 HX4.out).mono ?_
  rintro e w5 ⟨v, rfl, ⟨E, cE, rfl, hcE, hrE⟩, hx5⟩
  have HE := Lib.hid hrE
  have HX45 := Lib.hid hx5
  have HX5 := Lib.hid (HX4.out.trans hx5)
  have HF5 := Lib.hid (HF4.out.ext hx5)
  clear hrE hx5
  go_wp2_with fail
  refine (HRK.out f w5 HF5.out HX5.out).mono ?_
  rintro e w6 ⟨rfl, hx6⟩
  have HX6 := Lib.hid (HX5.out.trans hx6)
  have HX56 := Lib.hid hx6
  clear hx6
  go_wp2_with fail
  refine (HRT.out w6 HX6.out).mono ?_
  rintro e w7 (⟨_, rfl, q7, rfl⟩ | ⟨hp, _⟩)
  rotate_left
  · exact absurd HT.out hp
  have hcell : (w6.drewN q7).cell? ⟨b0, o0, none⟩ = some (.slice B0 N c0) := ((HX6.out.drewN q7).below.cell (p := ⟨b0, o0, none⟩) (block_lt_of_cell HC0.out)).trans HC0.out
  go_wp2_with fail
  refine (HRD.out (w6.drewN q7) (HX6.out.drewN q7)).mono ?_
  rintro e w8 ⟨g, cl, fv, F, ps, rfl, _, _, hred, ⟨Bp, cp, rfl, _⟩, hx8⟩
  have hps : ps.length = d := Lin.cnt_same (fun _ _ => Iff.rfl) hred.cnt HD.out
  have HX8 := Lib.hid ((HX6.out.drewN q7).trans hx8)
  have HX78 := Lib.hid (((HX56.out).drewN q7).trans hx8)
  clear hred hx8 hcell
  rw [hps]
  clear hps
  go_wp2_with fail
  refine (same_tells x B E cB cE w8 (HB.out.ext (HX45.out.trans HX78.out)) (HE.out.ext HX78.out) (by omega)).mono ?_
  rintro e w9 ⟨rfl, hx9⟩
  have HX9 := Lib.hid (HX8.out.trans hx9)
  clear hx9
  go_wp2
  go_ret
  exact ⟨rfl, HX9.out⟩

theorem tells3_walk (C : SolveSaid) (D : RankSaid) (rows : List (List Nat)) (A : Option Addr) (c : Nat) (w : World) (ha : RRd w A rows) (hmax : rows.length ≤ maxLen) (hc : rows.length ≤ c) :
    Calls Try.prog 3 #[.slice A rows.length c] w (Holds w) := by
  by_cases h : Few rows
  · by_cases ht : Rt rows
    · have hm := ht.1
      have hwl : wide rows ≤ 12 := h.2 0 hm
      rcases Lin.sol_or (kr_lin (wide rows) rows ha.sm) (wide rows - 1) with ⟨x, hx⟩ | hx
      · exact tells3_right C D rows A c w ha hc h ht x 0 (by rw [hx.len]; omega) (Lib.hid fun f u hf hu => solve_is C f rows A c u hf (ha.ext hu) hc (few_len h) (few_rows h) ht x hx) (Lib.hid fun u hu => ref_solve_is rows A c u (ha.ext hu) (few_len h) (few_rows h) ht x hx)
      · exact tells3_right C D rows A c w ha hc h ht [] 7 (by simp) (Lib.hid fun f u hf hu => solve_no C f rows A c u hf (ha.ext hu) hc (few_len h) (few_rows h) ht hx) (Lib.hid fun u hu => ref_solve_no rows A c u (ha.ext hu) (few_len h) (few_rows h) ht hx)
    · exact tells3_odd C D rows A c w ha hc h ht
  · exact tells3_big C D rows A c w ha hmax h
end Go.Proofs.Ytlncelfacfflhaa

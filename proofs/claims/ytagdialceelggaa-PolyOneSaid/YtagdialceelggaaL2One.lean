/-
  The walk of the statement PolyOne: a polynomial comes back from its values, if layer 2's own functions do what they are to do. Conditions: just that.
-/
import Derived.Test.YtagdialceelggaaL2Ring
import Derived.Test.YtagdialceelggaaPtsAppend
namespace Go.Proofs.Ytagdialceelggaa
open Go.RowKit
open Pol (co Sm px py Apart thr trim)

set_option maxHeartbeats 400000 in
set_option maxRecDepth 100000 in
theorem one2_big (C : PolySaid) (A : Option Addr) (n ca : Nat) (x : Int) (h : 20 < n) (w : World) : Calls Try.prog 7 #[.slice A n ca, .int .u8 x] w (Holds w) := by
  have hI : (20 : Int) < (n : Int) := by omega
  go_enter Try.func7, Try.ntmps7
  go_wp2_with fail
  refine (awake2 C _).mono ?_
  rintro e v0 ⟨rfl, hx⟩
  have K1 := Lib.hid (hx)
  clear hx
  go_wp2_with fail
  refine (awake2 C _).mono ?_
  rintro e v1 ⟨rfl, hx⟩
  have K2 := Lib.hid (K1.out.trans (hx))
  clear K1
  clear hx
  go_wp2_with fail
  go_ret
  exact ⟨rfl, K2.out⟩

/-- The first k places from 'from' on, with the values there. -/
def run (a : List Nat) (x : Nat) (k : Nat) : List (Nat × Nat) := (List.range k).map fun i => ((x + i) % 256, Pol.ev a ((x + i) % 256))
theorem run_len (a : List Nat) (x k : Nat) : (run a x k).length = k := by simp [run]
theorem run_succ (a : List Nat) (x k : Nat) : run a x (k + 1) = run a x k ++ [((x + k) % 256, Pol.ev a ((x + k) % 256))] := by simp [run, List.range_succ]
theorem run_at (a : List Nat) (x k i : Nat) (h : i < k) : px (run a x k) i = (x + i) % 256 ∧ py (run a x k) i = Pol.ev a ((x + i) % 256) := by
  unfold px py run
  rw [List.getElem?_map, List.getElem?_range h]
  exact ⟨rfl, rfl⟩
theorem run_sm (a : List Nat) (ha : Sm a) (x k : Nat) : Pol.PSm (run a x k) := fun i => by
  by_cases h : i < k
  · rw [(run_at a x k i h).1, (run_at a x k i h).2]
    exact ⟨by omega, Pol.ev_lt a _ ha⟩
  · unfold px py
    rw [List.getElem?_eq_none (by rw [run_len]; omega)]
    exact ⟨by simp, by simp⟩
theorem run_apart (a : List Nat) (x k : Nat) (hk : k ≤ 256) : Apart (run a x k) (run a x k).length := fun i j h1 h2 => by
  rw [run_len] at h2
  rw [(run_at a x k i h2).1, (run_at a x k j (by omega)).1]
  omega
theorem run_back (a : List Nat) (ha : Sm a) (x : Nat) (hk : a.length ≤ 256) : thr (run a x a.length) (run a x a.length).length = trim a := by
  refine (Pol.thr_one _ (run_sm a ha x _) (run_apart a x _ hk) a ha (fun i hi => Pol.co_out a i (by rw [run_len] at hi; exact hi)) (fun j hj => ?_)).symm
  rw [run_len] at hj
  rw [(run_at a x _ j hj).1, (run_at a x _ j hj).2]

set_option maxHeartbeats 1000000 in
set_option maxRecDepth 100000 in
theorem one2_small (C : PolySaid) (a : List Nat) (x : Nat) (A : Option Addr) (ca : Nat) (w : World) (ha : Rd w A a) (hca : a.length ≤ ca) (_hx0 : x < 256) (hl : a.length ≤ 20) : Calls Try.prog 7 #[.slice A a.length ca, .int .u8 (x : Int)] w (Holds w) := by
  have hsa := ha.1
  have hback := run_back a hsa x (by omega)
  have hap := run_apart a x a.length (by omega)
  have hsm := run_sm a hsa x a.length
  rw [run_len] at hback hap
  have LT := Lib.hid (show (trim a).length ≤ 1048576 by have := Pol.trim_len a; omega)
  generalize hn : a.length = n at *
  have HN := Lib.hid hn
  have HBK := Lib.hid hback
  have HAP := Lib.hid hap
  have HSM := Lib.hid hsm
  have HSA := Lib.hid hsa
  have hI : ¬ (20 : Int) < (n : Int) := by omega
  have hJ : decide ((20 : Int) < (n : Int)) = false := by simpa using hI
  clear hn hback hap hsm hsa
  have X0 := Lib.hid (Ext.refl w)
  have K1 := Lib.hid (ha)
  clear ha
  go_enter Try.func7, Try.ntmps7
  go_wp2_with fail
  refine (awake2 C _).mono ?_
  rintro e v1 ⟨rfl, hx⟩
  have K2 := Lib.hid (X0.out.trans (hx))
  have K3 := Lib.hid (K1.out.ext (hx))
  clear X0 K1
  clear hx
  go_wp2_with fail
  refine (new_any _).mono ?_
  rintro e v2 ⟨f, rfl, hf, _, hx⟩
  have K4 := Lib.hid (K2.out.trans (hx))
  have K5 := Lib.hid (K3.out.ext (hx))
  clear K2 K3
  have K6 := Lib.hid (hf)
  clear hf hx
  go_wp2_with fail
  go_loopg [6, 22] n (fun g s6 s22 wx => ∃ k : Nat, k + g = n ∧ s22 = .int .i64 (k : Int) ∧ PMine wx v2.heap.size s6 (run a x k) ∧ Ext v2 wx)
  case atStart => exact ⟨0, by omega, rfl, PMine.nil _ _, Ext.refl _⟩
  case round =>
    obtain ⟨k, hkg, rfl, hm, hx⟩ := hrel
    have HM := Lib.hid hm
    have HX := Lib.hid hx
    clear hm hx
    cases gk with
    | zero =>
      obtain rfl : n = k := by omega
      clear hkg
      obtain ⟨B, c, rfl, hcB, hrB⟩ := HM.out.slice HSM.out
      have HB := Lib.hid hrB
      rw [run_len] at hcB
      clear hrB HM
      simp only [run_len]
      go_wp2_with fail
      have hth := C.through f (run a x n) B c wr (K6.out.ext HX.out) HB.out (by rw [run_len]; exact hcB) (by rw [run_len]; omega) (by rw [run_len]; exact HAP.out)
      rw [run_len, HBK.out] at hth
      refine hth.mono ?_
      clear hth
      rintro e u1 ⟨v, rfl, ⟨P, p, rfl, _, hr⟩, hx1⟩
      have HP := Lib.hid hr
      have HX1 := Lib.hid (HX.out.trans hx1)
      clear hr hx1
      go_wp2_with fail
      have htr := ref_trim a A ca u1 (K5.out.ext HX1.out) (by rw [HN.out]; exact hca) (by rw [HN.out]; omega)
      rw [HN.out] at htr
      refine htr.mono ?_
      clear htr
      rintro e u2 ⟨T1, t1, rfl, _, hr, hx2⟩
      have HT := Lib.hid hr
      have HX2 := Lib.hid (HX1.out.trans hx2)
      have HP2 := Lib.hid (HP.out.ext hx2)
      clear hr hx2
      go_wp2_with fail
      refine (same_tells (trim a) P T1 p t1 _ HP2.out HT.out LT.out).mono ?_
      rintro e u3 ⟨rfl, hx3⟩
      have HX3 := Lib.hid (HX2.out.trans hx3)
      clear hx3
      go_wp2_with fail
      go_ret
      exact ⟨rfl, K4.out.trans HX3.out⟩
    | succ g =>
      have hkI : (k : Int) < (n : Int) := by omega
      have hkb : (k : Int) < 256 := by omega
      obtain ⟨z, hzN⟩ : ∃ z, (x + k) % 256 = z := ⟨_, rfl⟩
      have hz : ((x : Int) + (k : Int)) % 256 = (z : Int) := by omega
      have hz1 : z < 256 := by omega
      have hev := C.eval f a z A ca wr (K6.out.ext HX.out) (K5.out.ext HX.out) hz1 (by rw [HN.out]; omega)
      rw [HN.out] at hev
      have hel := Pol.ev_lt a z HSA.out
      have hsu : run a x (k + 1) = run a x k ++ [(z, Pol.ev a z)] := by rw [run_succ, hzN]
      have HSU := Lib.hid hsu
      have HEV := Lib.hid hev
      have HLN := Lib.hid (run_len a x k)
      clear hev hsu hzN
      go_wp2_with fail
      refine HEV.out.mono ?_
      rintro e u1 ⟨rfl, hx1⟩
      have HM1 := Lib.hid (HM.out.kept hx1)
      have HX1 := Lib.hid (HX.out.trans hx1)
      clear hx1
      have hps : Pol.PSm [(z, Pol.ev a z)] := fun i => by
        match i with
        | 0 => exact ⟨hz1, hel⟩
        | n + 1 => simp [px, py]
      have HPS := Lib.hid hps
      clear hps
      go_wp2_with (at_builtin; refine wpList_append_prd rfl (.tmp 29) (.tmp 36) rfl v2.heap.size u6 (run a x k) [(z, Pol.ev a z)] rfl (HM1.out.kept ((Ext.refl _).alloc _)) (some ⟨u1.heap.size, 0, none⟩) 1 1 rfl rfl (prd_lit u1 _ HPS.out) (by rw [HLN.out]; simp; omega) (by simp; have := HX1.out.size; omega) ?_; intro v' w' hown' hg' hat')
      have HOWN := Lib.hid hown'
      have HYY := Lib.hid ((HX1.out.alloc _).more hg' HM1.out.block)
      clear hown' hg' hat'
      go_wp2
      go_roundg g
      case measure => omega
      case rel => exact ⟨k + 1, by omega, by go_num, by rw [HSU.out]; exact HOWN.out, HYY.out⟩

theorem one2_walk (C : PolySaid) (a : List Nat) (x : Nat) (A : Option Addr) (ca : Nat) (w : World) (ha : Rd w A a) (hca : a.length ≤ ca) (hx0 : x < 256) : Calls Try.prog 7 #[.slice A a.length ca, .int .u8 (x : Int)] w (Holds w) := by
  by_cases h : 20 < a.length
  · exact one2_big C A _ ca x h w
  · exact one2_small C a x A ca w ha hca hx0 (by omega)
end Go.Proofs.Ytagdialceelggaa

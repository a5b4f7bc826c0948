/-
  The walk of the statement PolyThrough: through any points, no place of which is there twice, goes the document's polynomial, if layer 2's own functions do what they are to do. Conditions: just that.
-/
import Derived.Test.YtagdialceelggaaAwake2
import Derived.Test.YtagdialceelggaaREval
import Derived.Test.YtagdialceelggaaRTwice
import Derived.Test.YtagdialceelggaaRThrough
namespace Go.Proofs.Ytagdialceelggaa
open Go.RowKit
open Pol (co Sm px py Apart thr trim)

set_option maxHeartbeats 400000 in
set_option maxRecDepth 100000 in
theorem through2_big (C : PolySaid) (A : Option Addr) (n ca : Nat) (x : Int) (h : 20 < n) (w : World) : Calls Try.prog 5 #[.slice A n ca, .int .u8 x] w (Holds w) := by
  have hI : (20 : Int) < (n : Int) := by omega
  go_enter Try.func5, Try.ntmps5
  go_wp2_with fail
  refine (awake2 C _).mono ?_
  rintro e v0 ⟨rfl, hx⟩
  have K1 := Lib.hid (hx)
  clear hx
  go_wp2_with fail
  refine (awake2 C _).mono ?_
  rintro e v1 ⟨rfl, hx⟩
  have K2 := Lib.hid (K1.out.trans (hx))
  clear K1
  clear hx
  go_wp2_with fail
  go_ret
  exact ⟨rfl, K2.out⟩

set_option maxHeartbeats 1000000 in
set_option maxRecDepth 100000 in
theorem through2_twice (C : PolySaid) (D : AtSaid) (l : List (Nat × Nat)) (x : Nat) (A : Option Addr) (ca : Nat) (w : World) (ha : PRd w A l) (hca : l.length ≤ ca) (hx0 : x < 256) (hl : l.length ≤ 20) (h0 : ¬ Apart l l.length) : Calls Try.prog 5 #[.slice A l.length ca, .int .u8 (x : Int)] w (Holds w) := by
  have hI : ¬ (20 : Int) < (l.length : Int) := by omega
  have H0 := Lib.hid h0
  clear h0
  have X0 := Lib.hid (Ext.refl w)
  have K1 := Lib.hid (ha)
  clear ha
  go_enter Try.func5, Try.ntmps5
  go_wp2_with fail
  refine (awake2 C _).mono ?_
  rintro e v1 ⟨rfl, hx⟩
  have K2 := Lib.hid (X0.out.trans (hx))
  have K3 := Lib.hid (K1.out.ext (hx))
  clear X0 K1
  clear hx
  go_wp2_with fail
  refine (new_any _).mono ?_
  rintro e v2 ⟨f, rfl, hf, _, hx⟩
  have K4 := Lib.hid (K2.out.trans (hx))
  have K5 := Lib.hid (K3.out.ext (hx))
  clear K2 K3
  have K6 := Lib.hid (hf)
  clear hf hx
  go_wp2_with fail
  refine (C.twice f l A ca _ K6.out K5.out hca (by omega) H0.out).mono ?_
  rintro e v3 ⟨v, rfl, ⟨B, c, rfl, _, _⟩, hx⟩
  have K7 := Lib.hid (K4.out.trans (hx))
  have K8 := Lib.hid (K5.out.ext (hx))
  have K9 := Lib.hid (K6.out.ext (hx))
  clear K4 K5 K6
  clear hx
  go_wp2_with fail
  refine (D.twice f l x A ca _ K9.out K8.out hca (by omega) hx0 H0.out).mono ?_
  rintro e v4 ⟨rfl, hx⟩
  have K10 := Lib.hid (K7.out.trans (hx))
  have K11 := Lib.hid (K8.out.ext (hx))
  have K12 := Lib.hid (K9.out.ext (hx))
  clear K7 K8 K9
  clear hx
  go_wp2_with fail
  refine ((ref_twice_yes l A ca _ K11.out (by omega) H0.out).mono fun _ _ h => h.tells).mono ?_
  rintro e v5 ⟨rfl, hx⟩
  have K13 := Lib.hid (K10.out.trans (hx))
  have K14 := Lib.hid (K11.out.ext (hx))
  have K15 := Lib.hid (K12.out.ext (hx))
  clear K10 K11 K12
  clear hx
  go_wp2_with fail
  go_ret
  exact ⟨rfl, K13.out⟩

set_option maxHeartbeats 1000000 in
set_option maxRecDepth 100000 in
theorem through2_of (C : PolySaid) (D : AtSaid) (l : List (Nat × Nat)) (x : Nat) (A : Option Addr) (ca : Nat) (w : World) (ha : PRd w A l) (hca : l.length ≤ ca) (hx0 : x < 256) (hl : l.length ≤ 20) (h0 : Apart l l.length) : Calls Try.prog 5 #[.slice A l.length ca, .int .u8 (x : Int)] w (Holds w) := by
  have hI : ¬ (20 : Int) < (l.length : Int) := by omega
  have H0 := Lib.hid h0
  have LT := Lib.hid (show (thr l l.length).length ≤ 1048576 by
    have h1 := Pol.trim_le (thr l l.length) l.length (Pol.thr_len l _ (Nat.le_refl _))
    rw [Pol.thr_trim] at h1
    omega)
  clear h0
  have X0 := Lib.hid (Ext.refl w)
  have K1 := Lib.hid (ha)
  clear ha
  go_enter Try.func5, Try.ntmps5
  go_wp2_with fail
  refine (awake2 C _).mono ?_
  rintro e v1 ⟨rfl, hx⟩
  have K2 := Lib.hid (X0.out.trans (hx))
  have K3 := Lib.hid (K1.out.ext (hx))
  clear X0 K1
  clear hx
  go_wp2_with fail
  refine (new_any _).mono ?_
  rintro e v2 ⟨f, rfl, hf, _, hx⟩
  have K4 := Lib.hid (K2.out.trans (hx))
  have K5 := Lib.hid (K3.out.ext (hx))
  clear K2 K3
  have K6 := Lib.hid (hf)
  clear hf hx
  go_wp2_with fail
  refine (C.through f l A ca _ K6.out K5.out hca (by omega) H0.out).mono ?_
  rintro e v3 ⟨v, rfl, ⟨B, c, rfl, hcB, hr⟩, hx⟩
  have K7 := Lib.hid (K4.out.trans (hx))
  have K8 := Lib.hid (K5.out.ext (hx))
  have K9 := Lib.hid (K6.out.ext (hx))
  clear K4 K5 K6
  have K10 := Lib.hid (hr)
  clear hr hx
  go_wp2_with fail
  refine (D.value f l x A ca _ K9.out K8.out hca (by omega) hx0 H0.out).mono ?_
  rintro e v4 ⟨rfl, hx⟩
  have K11 := Lib.hid (K7.out.trans (hx))
  have K12 := Lib.hid (K8.out.ext (hx))
  have K13 := Lib.hid (K9.out.ext (hx))
  have K14 := Lib.hid (K10.out.ext (hx))
  clear K7 K8 K9 K10
  clear hx
  go_wp2_with fail
  refine ((ref_twice_no l A ca _ K12.out (by omega) H0.out).mono fun _ _ h => h.tells).mono ?_
  rintro e v5 ⟨rfl, hx⟩
  have K15 := Lib.hid (K11.out.trans (hx))
  have K16 := Lib.hid (K12.out.ext (hx))
  have K17 := Lib.hid (K13.out.ext (hx))
  have K18 := Lib.hid (K14.out.ext (hx))
  clear K11 K12 K13 K14
  clear hx
  go_wp2_with fail
  refine (ref_through l A ca _ K16.out (by omega) H0.out).mono ?_
  rintro e v6 ⟨T1, t1, rfl, _, hr, hx⟩
  have K19 := Lib.hid (K15.out.trans (hx))
  have K20 := Lib.hid (K16.out.ext (hx))
  have K21 := Lib.hid (K17.out.ext (hx))
  have K22 := Lib.hid (K18.out.ext (hx))
  clear K15 K16 K17 K18
  have K23 := Lib.hid (hr)
  clear hr hx
  go_wp2_with fail
  refine (same_tells (thr l l.length) B T1 c t1 _ K22.out K23.out LT.out).mono ?_
  rintro e v7 ⟨rfl, hx⟩
  have K24 := Lib.hid (K19.out.trans (hx))
  have K25 := Lib.hid (K20.out.ext (hx))
  have K26 := Lib.hid (K21.out.ext (hx))
  have K27 := Lib.hid (K22.out.ext (hx))
  have K28 := Lib.hid (K23.out.ext (hx))
  clear K19 K20 K21 K22 K23
  clear hx
  go_wp2_with fail
  refine ((ref_eval (thr l l.length) x T1 t1 _ K28.out hx0 LT.out).mono fun _ _ h => h.tells).mono ?_
  rintro e v8 ⟨rfl, hx⟩
  have K29 := Lib.hid (K24.out.trans (hx))
  have K30 := Lib.hid (K25.out.ext (hx))
  have K31 := Lib.hid (K26.out.ext (hx))
  have K32 := Lib.hid (K27.out.ext (hx))
  have K33 := Lib.hid (K28.out.ext (hx))
  clear K24 K25 K26 K27 K28
  clear hx
  go_wp2_with fail
  go_ret
  exact ⟨rfl, K29.out⟩

theorem through2_walk (C : PolySaid) (D : AtSaid) (l : List (Nat × Nat)) (x : Nat) (A : Option Addr) (ca : Nat) (w : World) (ha : PRd w A l) (hca : l.length ≤ ca) (hx0 : x < 256) : Calls Try.prog 5 #[.slice A l.length ca, .int .u8 (x : Int)] w (Holds w) := by
  by_cases h : 20 < l.length
  · exact through2_big C A _ ca x h w
  by_cases h0 : Apart l l.length
  · exact through2_of C D l x A ca w ha hca hx0 (by omega) h0
  · exact through2_twice C D l x A ca w ha hca hx0 (by omega) h0
end Go.Proofs.Ytagdialceelggaa

/-
  The walk of the statement PolyTells: any polynomials' degree, value, sum and product are the document's, if layer 2's own functions do what they are to do. Conditions: just that.
-/
import Derived.Test.YtagdialceelggaaAwake2
import Derived.Test.YtagdialceelggaaRTrim
import Derived.Test.YtagdialceelggaaREval
import Derived.Test.YtagdialceelggaaRAdd
import Derived.Test.YtagdialceelggaaRMul
namespace Go.Proofs.Ytagdialceelggaa
open Go.RowKit
open Pol (co Sm px py Apart thr trim)

set_option maxHeartbeats 400000 in
set_option maxRecDepth 100000 in
theorem tells2_big_a (C : PolySaid) (A B : Option Addr) (na nb ca cb : Nat) (x : Int) (h : 40 < na) (w : World) : Calls Try.prog 3 #[.slice A na ca, .slice B nb cb, .int .u8 x] w (Holds w) := by
  have hI : (40 : Int) < (na : Int) := by omega
  go_enter Try.func3, Try.ntmps3
  go_wp2_with fail
  refine (awake2 C _).mono ?_
  rintro e v0 ⟨rfl, hx⟩
  have K1 := Lib.hid (hx)
  clear hx
  go_wp2_with fail
  refine (awake2 C _).mono ?_
  rintro e v1 ⟨rfl, hx⟩
  have K2 := Lib.hid (K1.out.trans (hx))
  clear K1
  clear hx
  go_wp2_with fail
  go_ret
  exact ⟨rfl, K2.out⟩

set_option maxHeartbeats 400000 in
set_option maxRecDepth 100000 in
theorem tells2_big_b (C : PolySaid) (A B : Option Addr) (na nb ca cb : Nat) (x : Int) (h0 : na ≤ 40) (h : 40 < nb) (w : World) : Calls Try.prog 3 #[.slice A na ca, .slice B nb cb, .int .u8 x] w (Holds w) := by
  have hI0 : ¬ (40 : Int) < (na : Int) := by omega
  have hI : (40 : Int) < (nb : Int) := by omega
  go_enter Try.func3, Try.ntmps3
  go_wp2_with fail
  refine (awake2 C _).mono ?_
  rintro e v0 ⟨rfl, hx⟩
  have K1 := Lib.hid (hx)
  clear hx
  go_wp2_with fail
  refine (awake2 C _).mono ?_
  rintro e v1 ⟨rfl, hx⟩
  have K2 := Lib.hid (K1.out.trans (hx))
  clear K1
  clear hx
  go_wp2_with fail
  go_ret
  exact ⟨rfl, K2.out⟩

theorem len_mulP (a b : List Nat) (ha : a.length ≤ 1000) (hb : b.length ≤ 1000) : (trim (Pol.mulP a b)).length ≤ 2000 := by
  by_cases h : b = []
  · subst h
    exact Pol.trim_le _ _ (fun i _ => Pol.mulP_nil a i)
  · exact Pol.trim_le _ _ (fun i hi => Pol.mulP_len a b i (by omega) h)
theorem len_addP (a b : List Nat) (ha : a.length ≤ 1000) (hb : b.length ≤ 1000) : (trim (Pol.addP a b)).length ≤ 1000 := by
  have := Pol.trim_len (Pol.addP a b)
  rw [Pol.addP_len] at this
  omega

set_option maxHeartbeats 1000000 in
set_option maxRecDepth 100000 in
theorem tells2_small (C : PolySaid) (a b : List Nat) (x : Nat) (A B : Option Addr) (ca cb : Nat) (w : World) (ha : Rd w A a) (hb : Rd w B b) (hca : a.length ≤ ca) (hcb : b.length ≤ cb) (hx0 : x < 256) (hla : a.length ≤ 40) (hlb : b.length ≤ 40) :
    Calls Try.prog 3 #[.slice A a.length ca, .slice B b.length cb, .int .u8 (x : Int)] w (Holds w) := by
  have hIa : ¬ (40 : Int) < (a.length : Int) := by omega
  have hIb : ¬ (40 : Int) < (b.length : Int) := by omega
  have hta := Pol.trim_len a
  have LA := Lib.hid (show (trim (Pol.addP a b)).length ≤ 1048576 by have := len_addP a b (by omega) (by omega); omega)
  have LM := Lib.hid (show (trim (Pol.mulP a b)).length ≤ 1048576 by have := len_mulP a b (by omega) (by omega); omega)
  have X0 := Lib.hid (Ext.refl w)
  have K1 := Lib.hid (ha)
  have K2 := Lib.hid (hb)
  clear ha hb
  go_enter Try.func3, Try.ntmps3
  go_wp2_with fail
  refine (awake2 C _).mono ?_
  rintro e v1 ⟨rfl, hx⟩
  have K3 := Lib.hid (X0.out.trans (hx))
  have K4 := Lib.hid (K1.out.ext (hx))
  have K5 := Lib.hid (K2.out.ext (hx))
  clear X0 K1 K2
  clear hx
  go_wp2_with fail
  refine (new_any _).mono ?_
  rintro e v2 ⟨f, rfl, hf, _, hx⟩
  have K6 := Lib.hid (K3.out.trans (hx))
  have K7 := Lib.hid (K4.out.ext (hx))
  have K8 := Lib.hid (K5.out.ext (hx))
  clear K3 K4 K5
  have K9 := Lib.hid (hf)
  clear hf hx
  go_wp2_with fail
  refine (ref_trim a A ca _ K7.out hca (by omega)).mono ?_
  rintro e v3 ⟨T1, t1, rfl, _, hr, hx⟩
  have K10 := Lib.hid (K6.out.trans (hx))
  have K11 := Lib.hid (K7.out.ext (hx))
  have K12 := Lib.hid (K8.out.ext (hx))
  have K13 := Lib.hid (K9.out.ext (hx))
  clear K6 K7 K8 K9
  have K14 := Lib.hid (hr)
  clear hr hx
  go_wp2_with fail
  refine (C.degree a A ca _ K11.out (by omega)).mono ?_
  rintro e v4 ⟨rfl, hx⟩
  have K15 := Lib.hid (K10.out.trans (hx))
  have K16 := Lib.hid (K11.out.ext (hx))
  have K17 := Lib.hid (K12.out.ext (hx))
  have K18 := Lib.hid (K13.out.ext (hx))
  have K19 := Lib.hid (K14.out.ext (hx))
  clear K10 K11 K12 K13 K14
  clear hx
  go_wp2_with fail
  refine (C.trims a A ca _ K16.out hca (by omega)).mono ?_
  rintro e v5 ⟨T2, t2, rfl, _, hr, hx⟩
  have K20 := Lib.hid (K15.out.trans (hx))
  have K21 := Lib.hid (K16.out.ext (hx))
  have K22 := Lib.hid (K17.out.ext (hx))
  have K23 := Lib.hid (K18.out.ext (hx))
  have K24 := Lib.hid (K19.out.ext (hx))
  clear K15 K16 K17 K18 K19
  have K25 := Lib.hid (hr)
  clear hr hx
  go_wp2_with fail
  refine (same_tells (trim a) T2 T1 t2 t1 _ K25.out K24.out (by omega)).mono ?_
  rintro e v6 ⟨rfl, hx⟩
  have K26 := Lib.hid (K20.out.trans (hx))
  have K27 := Lib.hid (K21.out.ext (hx))
  have K28 := Lib.hid (K22.out.ext (hx))
  have K29 := Lib.hid (K23.out.ext (hx))
  have K30 := Lib.hid (K24.out.ext (hx))
  have K31 := Lib.hid (K25.out.ext (hx))
  clear K20 K21 K22 K23 K24 K25
  clear hx
  go_wp2_with fail
  refine (C.eval f a x A ca _ K29.out K27.out hx0 (by omega)).mono ?_
  rintro e v7 ⟨rfl, hx⟩
  have K32 := Lib.hid (K26.out.trans (hx))
  have K33 := Lib.hid (K27.out.ext (hx))
  have K34 := Lib.hid (K28.out.ext (hx))
  have K35 := Lib.hid (K29.out.ext (hx))
  clear K26 K27 K28 K29
  clear hx
  go_wp2_with fail
  refine ((ref_eval a x A ca _ K33.out hx0 (by omega)).mono fun _ _ h => h.tells).mono ?_
  rintro e v8 ⟨rfl, hx⟩
  have K36 := Lib.hid (K32.out.trans (hx))
  have K37 := Lib.hid (K33.out.ext (hx))
  have K38 := Lib.hid (K34.out.ext (hx))
  have K39 := Lib.hid (K35.out.ext (hx))
  clear K32 K33 K34 K35
  clear hx
  go_wp2_with fail
  refine (C.add a b A B ca cb _ K37.out K38.out hca hcb (by omega) (by omega)).mono ?_
  rintro e v9 ⟨T3, t3, rfl, _, hr, hx⟩
  have K40 := Lib.hid (K36.out.trans (hx))
  have K41 := Lib.hid (K37.out.ext (hx))
  have K42 := Lib.hid (K38.out.ext (hx))
  have K43 := Lib.hid (K39.out.ext (hx))
  clear K36 K37 K38 K39
  have K44 := Lib.hid (hr)
  clear hr hx
  go_wp2_with fail
  refine (ref_add a b A B ca cb _ K41.out K42.out (by omega) (by omega)).mono ?_
  rintro e v10 ⟨T4, t4, rfl, _, hr, hx⟩
  have K45 := Lib.hid (K40.out.trans (hx))
  have K46 := Lib.hid (K41.out.ext (hx))
  have K47 := Lib.hid (K42.out.ext (hx))
  have K48 := Lib.hid (K43.out.ext (hx))
  have K49 := Lib.hid (K44.out.ext (hx))
  clear K40 K41 K42 K43 K44
  have K50 := Lib.hid (hr)
  clear hr hx
  go_wp2_with fail
  refine (same_tells (trim (Pol.addP a b)) T3 T4 t3 t4 _ K49.out K50.out LA.out).mono ?_
  rintro e v11 ⟨rfl, hx⟩
  have K51 := Lib.hid (K45.out.trans (hx))
  have K52 := Lib.hid (K46.out.ext (hx))
  have K53 := Lib.hid (K47.out.ext (hx))
  have K54 := Lib.hid (K48.out.ext (hx))
  have K55 := Lib.hid (K49.out.ext (hx))
  have K56 := Lib.hid (K50.out.ext (hx))
  clear K45 K46 K47 K48 K49 K50
  clear hx
  go_wp2_with fail
  refine (C.mul f a b A B ca cb _ K54.out K52.out K53.out hca hcb (by omega) (by omega)).mono ?_
  rintro e v12 ⟨T5, t5, rfl, _, hr, hx⟩
  have K57 := Lib.hid (K51.out.trans (hx))
  have K58 := Lib.hid (K52.out.ext (hx))
  have K59 := Lib.hid (K53.out.ext (hx))
  have K60 := Lib.hid (K54.out.ext (hx))
  clear K51 K52 K53 K54
  have K61 := Lib.hid (hr)
  clear hr hx
  go_wp2_with fail
  refine (ref_pmul a b A B ca cb _ K58.out K59.out (by omega) (by omega)).mono ?_
  rintro e v13 ⟨T6, t6, rfl, _, hr, hx⟩
  have K62 := Lib.hid (K57.out.trans (hx))
  have K63 := Lib.hid (K58.out.ext (hx))
  have K64 := Lib.hid (K59.out.ext (hx))
  have K65 := Lib.hid (K60.out.ext (hx))
  have K66 := Lib.hid (K61.out.ext (hx))
  clear K57 K58 K59 K60 K61
  have K67 := Lib.hid (hr)
  clear hr hx
  go_wp2_with fail
  refine (same_tells (trim (Pol.mulP a b)) T5 T6 t5 t6 _ K66.out K67.out LM.out).mono ?_
  rintro e v14 ⟨rfl, hx⟩
  have K68 := Lib.hid (K62.out.trans (hx))
  have K69 := Lib.hid (K63.out.ext (hx))
  have K70 := Lib.hid (K64.out.ext (hx))
  have K71 := Lib.hid (K65.out.ext (hx))
  have K72 := Lib.hid (K66.out.ext (hx))
  have K73 := Lib.hid (K67.out.ext (hx))
  clear K62 K63 K64 K65 K66 K67
  clear hx
  go_wp2_with fail
  go_ret
  exact ⟨rfl, K68.out⟩

theorem tells2_walk (C : PolySaid) (a b : List Nat) (x : Nat) (A B : Option Addr) (ca cb : Nat) (w : World) (ha : Rd w A a) (hb : Rd w B b) (hca : a.length ≤ ca) (hcb : b.length ≤ cb) (hx0 : x < 256) :
    Calls Try.prog 3 #[.slice A a.length ca, .slice B b.length cb, .int .u8 (x : Int)] w (Holds w) := by
  by_cases h : 40 < a.length
  · exact tells2_big_a C A B _ _ ca cb x h w
  by_cases h' : 40 < b.length
  · exact tells2_big_b C A B _ _ ca cb x (by omega) h' w
  exact tells2_small C a b x A B ca cb w ha hb hca hcb hx0 (by omega) (by omega)
end Go.Proofs.Ytagdialceelggaa

/-
  The walk of the statement PolyDivides: what is divided is the quotient times the divisor, and what is left, which has a lesser degree, if layer 2's own functions do what they are to do. Conditions: just that.
-/
import Derived.Test.YtagdialceelggaaL2Tells
namespace Go.Proofs.Ytagdialceelggaa
open Go.RowKit
open Pol (co Sm px py Apart thr trim)

set_option maxHeartbeats 400000 in
set_option maxRecDepth 100000 in
theorem divides2_big_a (C : PolySaid) (A B : Option Addr) (na nb ca cb : Nat) (h : 40 < na) (w : World) : Calls Try.prog 4 #[.slice A na ca, .slice B nb cb] w (Holds w) := by
  have hI : (40 : Int) < (na : Int) := by omega
  go_enter Try.func4, Try.ntmps4
  go_wp2_with fail
  refine (awake2 C _).mono ?_
  rintro e v0 ⟨rfl, hx⟩
  have K1 := Lib.hid (hx)
  clear hx
  go_wp2_with fail
  refine (awake2 C _).mono ?_
  rintro e v1 ⟨rfl, hx⟩
  have K2 := Lib.hid (K1.out.trans (hx))
  clear K1
  clear hx
  go_wp2_with fail
  go_ret
  exact ⟨rfl, K2.out⟩

set_option maxHeartbeats 400000 in
set_option maxRecDepth 100000 in
theorem divides2_big_b (C : PolySaid) (A B : Option Addr) (na nb ca cb : Nat) (h0 : na ≤ 40) (h : 40 < nb) (w : World) : Calls Try.prog 4 #[.slice A na ca, .slice B nb cb] w (Holds w) := by
  have hI0 : ¬ (40 : Int) < (na : Int) := by omega
  have hI : (40 : Int) < (nb : Int) := by omega
  go_enter Try.func4, Try.ntmps4
  go_wp2_with fail
  refine (awake2 C _).mono ?_
  rintro e v0 ⟨rfl, hx⟩
  have K1 := Lib.hid (hx)
  clear hx
  go_wp2_with fail
  refine (awake2 C _).mono ?_
  rintro e v1 ⟨rfl, hx⟩
  have K2 := Lib.hid (K1.out.trans (hx))
  clear K1
  clear hx
  go_wp2_with fail
  go_ret
  exact ⟨rfl, K2.out⟩

set_option maxHeartbeats 1000000 in
set_option maxRecDepth 100000 in
theorem divides2_zero (C : PolySaid) (a b : List Nat) (A B : Option Addr) (ca cb : Nat) (w : World) (ha : Rd w A a) (hb : Rd w B b) (hca : a.length ≤ ca) (hcb : b.length ≤ cb) (hla : a.length ≤ 40) (hlb : b.length ≤ 40) (h0 : trim b = []) : Calls Try.prog 4 #[.slice A a.length ca, .slice B b.length cb] w (Holds w) := by
  have hIa : ¬ (40 : Int) < (a.length : Int) := by omega
  have hIb : ¬ (40 : Int) < (b.length : Int) := by omega
  have H0 := Lib.hid h0
  clear h0
  have X0 := Lib.hid (Ext.refl w)
  have K1 := Lib.hid (ha)
  have K2 := Lib.hid (hb)
  clear ha hb
  go_enter Try.func4, Try.ntmps4
  go_wp2_with fail
  refine (awake2 C _).mono ?_
  rintro e v1 ⟨rfl, hx⟩
  have K3 := Lib.hid (X0.out.trans (hx))
  have K4 := Lib.hid (K1.out.ext (hx))
  have K5 := Lib.hid (K2.out.ext (hx))
  clear X0 K1 K2
  clear hx
  go_wp2_with fail
  refine (new_any _).mono ?_
  rintro e v2 ⟨f, rfl, hf, _, hx⟩
  have K6 := Lib.hid (K3.out.trans (hx))
  have K7 := Lib.hid (K4.out.ext (hx))
  have K8 := Lib.hid (K5.out.ext (hx))
  clear K3 K4 K5
  have K9 := Lib.hid (hf)
  clear hf hx
  go_wp2_with fail
  refine (C.divZero f a b A B ca cb _ K9.out K7.out K8.out hca hcb (by omega) (by omega) H0.out).mono ?_
  rintro e v3 ⟨vq, vr, rfl, ⟨Bq, cq, rfl, _, _⟩, ⟨Br, cr, rfl, _, _⟩, hx⟩
  have K10 := Lib.hid (K6.out.trans (hx))
  have K11 := Lib.hid (K7.out.ext (hx))
  have K12 := Lib.hid (K8.out.ext (hx))
  have K13 := Lib.hid (K9.out.ext (hx))
  clear K6 K7 K8 K9
  clear hx
  go_wp2_with fail
  refine (ref_trim b B cb _ K12.out hcb (by omega)).mono ?_
  rintro e v4 ⟨T1, t1, rfl, _, _, hx⟩
  have K14 := Lib.hid (K10.out.trans (hx))
  have K15 := Lib.hid (K11.out.ext (hx))
  have K16 := Lib.hid (K12.out.ext (hx))
  have K17 := Lib.hid (K13.out.ext (hx))
  clear K10 K11 K12 K13
  clear hx
  rw [H0.out]
  go_wp2_with fail
  go_ret
  exact ⟨rfl, K14.out⟩

set_option maxHeartbeats 1000000 in
set_option maxRecDepth 100000 in
theorem divides2_of (C : PolySaid) (a b : List Nat) (A B : Option Addr) (ca cb : Nat) (w : World) (ha : Rd w A a) (hb : Rd w B b) (hca : a.length ≤ ca) (hcb : b.length ≤ cb) (hla : a.length ≤ 40) (hlb : b.length ≤ 40) (h0 : trim b ≠ []) : Calls Try.prog 4 #[.slice A a.length ca, .slice B b.length cb] w (Holds w) := by
  have hIa : ¬ (40 : Int) < (a.length : Int) := by omega
  have hIb : ¬ (40 : Int) < (b.length : Int) := by omega
  have hb0 : ((((trim b).length : Nat) : Int) == 0) = false := beq_eq_false_iff_ne.2 (by have := List.length_pos_iff.2 h0; omega)
  have H0 := Lib.hid h0
  clear h0
  have X0 := Lib.hid (Ext.refl w)
  have K1 := Lib.hid (ha)
  have K2 := Lib.hid (hb)
  clear ha hb
  go_enter Try.func4, Try.ntmps4
  go_wp2_with fail
  refine (awake2 C _).mono ?_
  rintro e v1 ⟨rfl, hx⟩
  have K3 := Lib.hid (X0.out.trans (hx))
  have K4 := Lib.hid (K1.out.ext (hx))
  have K5 := Lib.hid (K2.out.ext (hx))
  clear X0 K1 K2
  clear hx
  go_wp2_with fail
  refine (new_any _).mono ?_
  rintro e v2 ⟨f, rfl, hf, _, hx⟩
  have K6 := Lib.hid (K3.out.trans (hx))
  have K7 := Lib.hid (K4.out.ext (hx))
  have K8 := Lib.hid (K5.out.ext (hx))
  clear K3 K4 K5
  have K9 := Lib.hid (hf)
  clear hf hx
  go_wp2_with fail
  refine (C.div f a b A B ca cb _ K9.out K7.out K8.out hca hcb (by omega) (by omega) H0.out).mono ?_
  rintro e v3 ⟨vq, vr, q, r, rfl, hvq, hvr, tq, tr, hqr, hlen, hql, hx⟩
  have K10 := Lib.hid (K6.out.trans (hx))
  have K11 := Lib.hid (K7.out.ext (hx))
  have K12 := Lib.hid (K8.out.ext (hx))
  have K13 := Lib.hid (K9.out.ext (hx))
  clear K6 K7 K8 K9
  clear hx
  obtain ⟨Bq, cq, rfl, hcq, hrq⟩ := hvq
  obtain ⟨Br, cr, rfl, hcr, hrr⟩ := hvr
  have K14 := Lib.hid (hrq)
  have K15 := Lib.hid (hrr)
  have hsum : trim (Pol.addP (trim (Pol.mulP q b)) r) = trim a := Pol.trim_ext _ _ (fun j => by rw [Pol.co_addP, Pol.co_trim]; exact hqr j)
  have HSUM := Lib.hid hsum
  have HTQ := Lib.hid tq
  have HTR := Lib.hid tr
  have hml := len_mulP q b (by omega) (by omega)
  have hbt := Pol.trim_len b
  have hat := Pol.trim_len a
  have hlenI : (r.length : Int) < ((trim b).length : Int) := by omega
  clear hsum tq tr hqr hrq hrr
  go_wp2_with fail
  refine (ref_trim b B cb _ K12.out hcb (by omega)).mono ?_
  rintro e v4 ⟨T1, t1, rfl, _, hr, hx⟩
  have K16 := Lib.hid (K10.out.trans (hx))
  have K17 := Lib.hid (K11.out.ext (hx))
  have K18 := Lib.hid (K12.out.ext (hx))
  have K19 := Lib.hid (K13.out.ext (hx))
  have K20 := Lib.hid (K14.out.ext (hx))
  have K21 := Lib.hid (K15.out.ext (hx))
  clear K10 K11 K12 K13 K14 K15
  have K22 := Lib.hid (hr)
  clear hr hx
  go_wp2_with fail
  refine (ref_trim b B cb _ K18.out hcb (by omega)).mono ?_
  rintro e v5 ⟨T2, t2, rfl, _, hr, hx⟩
  have K23 := Lib.hid (K16.out.trans (hx))
  have K24 := Lib.hid (K17.out.ext (hx))
  have K25 := Lib.hid (K18.out.ext (hx))
  have K26 := Lib.hid (K19.out.ext (hx))
  have K27 := Lib.hid (K20.out.ext (hx))
  have K28 := Lib.hid (K21.out.ext (hx))
  clear K16 K17 K18 K19 K20 K21
  have K29 := Lib.hid (hr)
  clear hr hx
  go_wp2_with fail
  refine (ref_pmul q b Bq B cq cb _ K27.out K25.out (by omega) (by omega)).mono ?_
  rintro e v6 ⟨T3, t3, rfl, _, hr, hx⟩
  have K30 := Lib.hid (K23.out.trans (hx))
  have K31 := Lib.hid (K24.out.ext (hx))
  have K32 := Lib.hid (K25.out.ext (hx))
  have K33 := Lib.hid (K26.out.ext (hx))
  have K34 := Lib.hid (K27.out.ext (hx))
  have K35 := Lib.hid (K28.out.ext (hx))
  clear K23 K24 K25 K26 K27 K28
  have K36 := Lib.hid (hr)
  clear hr hx
  go_wp2_with fail
  refine (ref_add (trim (Pol.mulP q b)) r T3 Br t3 cr _ K36.out K35.out (by omega) (by omega)).mono ?_
  rintro e v7 ⟨T4, t4, rfl, _, hr, hx⟩
  have K37 := Lib.hid (K30.out.trans (hx))
  have K38 := Lib.hid (K31.out.ext (hx))
  have K39 := Lib.hid (K32.out.ext (hx))
  have K40 := Lib.hid (K33.out.ext (hx))
  have K41 := Lib.hid (K34.out.ext (hx))
  have K42 := Lib.hid (K35.out.ext (hx))
  have K43 := Lib.hid (K36.out.ext (hx))
  clear K30 K31 K32 K33 K34 K35 K36
  rw [HSUM.out] at hr ⊢
  have K44 := Lib.hid (hr)
  clear hr hx
  go_wp2_with fail
  refine (ref_trim a A ca _ K38.out hca (by omega)).mono ?_
  rintro e v8 ⟨T5, t5, rfl, _, hr, hx⟩
  have K45 := Lib.hid (K37.out.trans (hx))
  have K46 := Lib.hid (K38.out.ext (hx))
  have K47 := Lib.hid (K39.out.ext (hx))
  have K48 := Lib.hid (K40.out.ext (hx))
  have K49 := Lib.hid (K41.out.ext (hx))
  have K50 := Lib.hid (K42.out.ext (hx))
  have K51 := Lib.hid (K44.out.ext (hx))
  clear K37 K38 K39 K40 K41 K42 K44
  have K52 := Lib.hid (hr)
  clear hr hx
  go_wp2_with fail
  refine (same_tells (trim a) T4 T5 t4 t5 _ K51.out K52.out (by omega)).mono ?_
  rintro e v9 ⟨rfl, hx⟩
  have K53 := Lib.hid (K45.out.trans (hx))
  have K54 := Lib.hid (K46.out.ext (hx))
  have K55 := Lib.hid (K47.out.ext (hx))
  have K56 := Lib.hid (K48.out.ext (hx))
  have K57 := Lib.hid (K49.out.ext (hx))
  have K58 := Lib.hid (K50.out.ext (hx))
  have K59 := Lib.hid (K51.out.ext (hx))
  have K60 := Lib.hid (K52.out.ext (hx))
  clear K45 K46 K47 K48 K49 K50 K51 K52
  clear hx
  go_wp2_with fail
  refine (ref_trim q Bq cq _ K57.out hcq (by omega)).mono ?_
  rintro e v10 ⟨T6, t6, rfl, _, hr, hx⟩
  have K61 := Lib.hid (K53.out.trans (hx))
  have K62 := Lib.hid (K54.out.ext (hx))
  have K63 := Lib.hid (K55.out.ext (hx))
  have K64 := Lib.hid (K56.out.ext (hx))
  have K65 := Lib.hid (K57.out.ext (hx))
  have K66 := Lib.hid (K58.out.ext (hx))
  clear K53 K54 K55 K56 K57 K58
  rw [HTQ.out] at hr ⊢
  have K67 := Lib.hid (hr)
  clear hr hx
  go_wp2_with fail
  refine (same_tells q Bq T6 cq t6 _ K65.out K67.out (by omega)).mono ?_
  rintro e v11 ⟨rfl, hx⟩
  have K68 := Lib.hid (K61.out.trans (hx))
  have K69 := Lib.hid (K62.out.ext (hx))
  have K70 := Lib.hid (K63.out.ext (hx))
  have K71 := Lib.hid (K64.out.ext (hx))
  have K72 := Lib.hid (K65.out.ext (hx))
  have K73 := Lib.hid (K66.out.ext (hx))
  have K74 := Lib.hid (K67.out.ext (hx))
  clear K61 K62 K63 K64 K65 K66 K67
  clear hx
  go_wp2_with fail
  refine (ref_trim r Br cr _ K73.out hcr (by omega)).mono ?_
  rintro e v12 ⟨T7, t7, rfl, _, hr, hx⟩
  have K75 := Lib.hid (K68.out.trans (hx))
  have K76 := Lib.hid (K69.out.ext (hx))
  have K77 := Lib.hid (K70.out.ext (hx))
  have K78 := Lib.hid (K71.out.ext (hx))
  have K79 := Lib.hid (K72.out.ext (hx))
  have K80 := Lib.hid (K73.out.ext (hx))
  clear K68 K69 K70 K71 K72 K73
  rw [HTR.out] at hr ⊢
  have K81 := Lib.hid (hr)
  clear hr hx
  go_wp2_with fail
  refine (same_tells r Br T7 cr t7 _ K80.out K81.out (by omega)).mono ?_
  rintro e v13 ⟨rfl, hx⟩
  have K82 := Lib.hid (K75.out.trans (hx))
  have K83 := Lib.hid (K76.out.ext (hx))
  have K84 := Lib.hid (K77.out.ext (hx))
  have K85 := Lib.hid (K78.out.ext (hx))
  have K86 := Lib.hid (K79.out.ext (hx))
  have K87 := Lib.hid (K80.out.ext (hx))
  have K88 := Lib.hid (K81.out.ext (hx))
  clear K75 K76 K77 K78 K79 K80 K81
  clear hx
  go_wp2_with fail
  go_ret
  exact ⟨rfl, K82.out⟩

theorem divides2_walk (C : PolySaid) (a b : List Nat) (A B : Option Addr) (ca cb : Nat) (w : World) (ha : Rd w A a) (hb : Rd w B b) (hca : a.length ≤ ca) (hcb : b.length ≤ cb) : Calls Try.prog 4 #[.slice A a.length ca, .slice B b.length cb] w (Holds w) := by
  by_cases h : 40 < a.length
  · exact divides2_big_a C A B _ _ ca cb h w
  by_cases h' : 40 < b.length
  · exact divides2_big_b C A B _ _ ca cb (by omega) h' w
  by_cases h0 : trim b = []
  · exact divides2_zero C a b A B ca cb w ha hb hca hcb (by omega) (by omega) h0
  · exact divides2_of C a b A B ca cb w ha hb hca hcb (by omega) (by omega) h0
end Go.Proofs.Ytagdialceelggaa

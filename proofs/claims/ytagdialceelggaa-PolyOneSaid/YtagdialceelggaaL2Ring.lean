/-
  The walk of the statement PolyRing: values of sums and products are the sums and products of values, and what is multiplied, and divided again, is what it was, if layer 2's own functions do what they are to do. Conditions: just that.
-/
import Derived.Test.YtagdialceelggaaL2Tells
import Derived.Test.YtagdialceelggaaFMul
namespace Go.Proofs.Ytagdialceelggaa
open Go.RowKit
open Pol (co Sm px py Apart thr trim)

set_option maxHeartbeats 400000 in
set_option maxRecDepth 100000 in
theorem ring2_big_a (C : PolySaid) (A B D : Option Addr) (na nb nd ca cb cd : Nat) (x : Int) (h : 40 < na) (w : World) : Calls Try.prog 8 #[.slice A na ca, .slice B nb cb, .slice D nd cd, .int .u8 x] w (Holds w) := by
  have hI : (40 : Int) < (na : Int) := by omega
  go_enter Try.func8, Try.ntmps8
  go_wp2_with fail
  refine (awake2 C _).mono ?_
  rintro e v0 ⟨rfl, hx⟩
  have K1 := Lib.hid (hx)
  clear hx
  go_wp2_with fail
  refine (awake2 C _).mono ?_
  rintro e v1 ⟨rfl, hx⟩
  have K2 := Lib.hid (K1.out.trans (hx))
  clear K1
  clear hx
  go_wp2_with fail
  go_ret
  exact ⟨rfl, K2.out⟩

set_option maxHeartbeats 400000 in
set_option maxRecDepth 100000 in
theorem ring2_big_b (C : PolySaid) (A B D : Option Addr) (na nb nd ca cb cd : Nat) (x : Int) (h0 : na ≤ 40) (h : 40 < nb) (w : World) : Calls Try.prog 8 #[.slice A na ca, .slice B nb cb, .slice D nd cd, .int .u8 x] w (Holds w) := by
  have hI0 : ¬ (40 : Int) < (na : Int) := by omega
  have hI : (40 : Int) < (nb : Int) := by omega
  go_enter Try.func8, Try.ntmps8
  go_wp2_with fail
  refine (awake2 C _).mono ?_
  rintro e v0 ⟨rfl, hx⟩
  have K1 := Lib.hid (hx)
  clear hx
  go_wp2_with fail
  refine (awake2 C _).mono ?_
  rintro e v1 ⟨rfl, hx⟩
  have K2 := Lib.hid (K1.out.trans (hx))
  clear K1
  clear hx
  go_wp2_with fail
  go_ret
  exact ⟨rfl, K2.out⟩

set_option maxHeartbeats 400000 in
set_option maxRecDepth 100000 in
theorem ring2_big_c (C : PolySaid) (A B D : Option Addr) (na nb nd ca cb cd : Nat) (x : Int) (h0 : na ≤ 40) (h1 : nb ≤ 40) (h : 40 < nd) (w : World) : Calls Try.prog 8 #[.slice A na ca, .slice B nb cb, .slice D nd cd, .int .u8 x] w (Holds w) := by
  have hI0 : ¬ (40 : Int) < (na : Int) := by omega
  have hI1 : ¬ (40 : Int) < (nb : Int) := by omega
  have hI : (40 : Int) < (nd : Int) := by omega
  go_enter Try.func8, Try.ntmps8
  go_wp2_with fail
  refine (awake2 C _).mono ?_
  rintro e v0 ⟨rfl, hx⟩
  have K1 := Lib.hid (hx)
  clear hx
  go_wp2_with fail
  refine (awake2 C _).mono ?_
  rintro e v1 ⟨rfl, hx⟩
  have K2 := Lib.hid (K1.out.trans (hx))
  clear K1
  clear hx
  go_wp2_with fail
  go_ret
  exact ⟨rfl, K2.out⟩

theorem eval_is (C : PolySaid) (f : Nat) (l : List Nat) (x v : Nat) (A : Option Addr) (c : Nat) (w : World) (hf : IsField w f) (hr : Rd w A l) (hx : x < 256) (hl : l.length ≤ 65536) (h : Pol.ev l x = v) :
    Calls Try.prog 16 #[.pointer (some ⟨f, 0, none⟩), .slice A l.length c, .int .u8 (x : Int)] w (Tells (.int .u8 (v : Int)) w) := h ▸ C.eval f l x A c w hf hr hx hl
theorem degree_is (C : PolySaid) (l : List Nat) (d : Int) (A : Option Addr) (c : Nat) (w : World) (hr : Rd w A l) (hl : l.length ≤ 65536) (h : ((trim l).length : Int) - 1 = d) :
    Calls Try.prog 13 #[.slice A l.length c] w (Tells (.int .i64 d) w) := h ▸ C.degree l A c w hr hl
/-- Degrees add up. -/
theorem deg_mul (a b : List Nat) (ha : trim a ≠ []) (hb : trim b ≠ []) : (trim (Pol.mulP a b)).length = (trim a).length - 1 + ((trim b).length - 1) + 1 := by
  obtain ⟨a1, a2⟩ := Pol.top_of a ha
  obtain ⟨b1, b2⟩ := Pol.top_of b hb
  refine Pol.trim_len_top _ _ ?_ (fun i hi => Pol.mulP_above a b _ _ a2 b2 i hi)
  rw [Pol.mulP_top a b _ _ a2 b2]
  exact Gf.mul_ne _ _ a1 b1
/-- What is multiplied, and divided again, is what it was. -/
theorem back (a b q r : List Nat) (ha : Sm a) (hb : Sm b) (hq : Sm q) (hb0 : trim b ≠ []) (tq : trim q = q) (tr : trim r = r) (h : ∀ j, co (Pol.mulP q b) j ^^^ co r j = co (trim (Pol.mulP a b)) j) (hl : r.length < (trim b).length) :
    q = trim a ∧ r = [] := by
  obtain ⟨b1, b2⟩ := Pol.top_of b hb0
  have := Pol.div_one q a b r _ hq ha hb b1 b2 (fun i hi => Pol.co_out r i (by omega)) (fun j => by rw [h j, Pol.co_trim])
  exact ⟨by rw [← tq]; exact Pol.trim_ext _ _ this.1, by rw [← tr]; exact (Pol.trim_nil_iff r).2 this.2⟩

set_option maxHeartbeats 1000000 in
set_option maxRecDepth 100000 in
theorem ring2_zero (C : PolySaid) (a b d : List Nat) (x : Nat) (A B D : Option Addr) (ca cb cd : Nat) (w : World) (ha : Rd w A a) (hb : Rd w B b) (hd : Rd w D d) (hca : a.length ≤ ca) (hcb : b.length ≤ cb) (hcd : d.length ≤ cd) (hx0 : x < 256) (hla : a.length ≤ 40) (hlb : b.length ≤ 40) (hld : d.length ≤ 40) (h0 : trim b = []) : Calls Try.prog 8 #[.slice A a.length ca, .slice B b.length cb, .slice D d.length cd, .int .u8 (x : Int)] w (Holds w) := by
  have hIa : ¬ (40 : Int) < (a.length : Int) := by omega
  have hIb : ¬ (40 : Int) < (b.length : Int) := by omega
  have hId : ¬ (40 : Int) < (d.length : Int) := by omega
  have hsa := ha.1
  have hsb := hb.1
  have hsd := hd.1
  have LA := Lib.hid (len_addP a b (by omega) (by omega))
  have LM := Lib.hid (len_mulP a b (by omega) (by omega))
  have LB := Lib.hid (len_addP b d (by omega) (by omega))
  have LD := Lib.hid (len_mulP a d (by omega) (by omega))
  have e1 : trim (Pol.mulP a (trim (Pol.addP b d))) = trim (Pol.mulP a (Pol.addP b d)) := Pol.trim_ext _ _ (fun j => Pol.mulP_congr _ _ _ _ (fun _ => rfl) (Pol.co_trim _) j)
  have e2 : trim (Pol.addP (trim (Pol.mulP a b)) (trim (Pol.mulP a d))) = trim (Pol.mulP a (Pol.addP b d)) := Pol.trim_ext _ _ (fun j => by
    rw [Pol.co_addP, Pol.co_trim, Pol.co_trim, Pol.mulP_add_right a b d hsa hsb hsd])
  have LG := Lib.hid (show (trim (Pol.mulP a (Pol.addP b d))).length ≤ 2000 from len_mulP a _ (by omega) (by rw [Pol.addP_len]; omega))
  have e3 : Pol.ev (trim (Pol.addP a b)) x = Pol.ev a x ^^^ Pol.ev b x := by rw [Pol.ev_trim, Pol.ev_addP a b x hsa hsb hx0]
  have e4 : Pol.ev (trim (Pol.mulP a b)) x = Gf.mul (Pol.ev a x) (Pol.ev b x) := by rw [Pol.ev_trim, Pol.ev_mulP a b x hsa hsb hx0]
  have hea := Pol.ev_lt a x hsa
  have heb := Pol.ev_lt b x hsb
  have E1 := Lib.hid e1
  have E2 := Lib.hid e2
  have E3 := Lib.hid e3
  have E4 := Lib.hid e4
  have SA := Lib.hid hsa
  have SB := Lib.hid hsb
  clear e1 e2 e3 e4 hsa hsb hsd
  have H0 := Lib.hid h0
  clear h0
  have X0 := Lib.hid (Ext.refl w)
  have K1 := Lib.hid (ha)
  have K2 := Lib.hid (hb)
  have K3 := Lib.hid (hd)
  clear ha hb hd
  go_enter Try.func8, Try.ntmps8
  go_wp2_with fail
  refine (awake2 C _).mono ?_
  rintro e v1 ⟨rfl, hx⟩
  have K4 := Lib.hid (X0.out.trans (hx))
  have K5 := Lib.hid (K1.out.ext (hx))
  have K6 := Lib.hid (K2.out.ext (hx))
  have K7 := Lib.hid (K3.out.ext (hx))
  clear X0 K1 K2 K3
  clear hx
  go_wp2_with fail
  refine (new_any _).mono ?_
  rintro e v2 ⟨f, rfl, hf, _, hx⟩
  have K8 := Lib.hid (K4.out.trans (hx))
  have K9 := Lib.hid (K5.out.ext (hx))
  have K10 := Lib.hid (K6.out.ext (hx))
  have K11 := Lib.hid (K7.out.ext (hx))
  clear K4 K5 K6 K7
  have K12 := Lib.hid (hf)
  clear hf hx
  go_wp2_with fail
  refine (C.add a b A B ca cb _ K9.out K10.out hca hcb (by omega) (by omega)).mono ?_
  rintro e v3 ⟨S1, s1, rfl, hc1, hr, hx⟩
  have K13 := Lib.hid (K8.out.trans (hx))
  have K14 := Lib.hid (K9.out.ext (hx))
  have K15 := Lib.hid (K10.out.ext (hx))
  have K16 := Lib.hid (K11.out.ext (hx))
  have K17 := Lib.hid (K12.out.ext (hx))
  clear K8 K9 K10 K11 K12
  have K18 := Lib.hid (hr)
  clear hr hx
  go_wp2_with fail
  refine (C.mul f a b A B ca cb _ K17.out K14.out K15.out hca hcb (by omega) (by omega)).mono ?_
  rintro e v4 ⟨P1, p1, rfl, hc2, hr, hx⟩
  have K19 := Lib.hid (K13.out.trans (hx))
  have K20 := Lib.hid (K14.out.ext (hx))
  have K21 := Lib.hid (K15.out.ext (hx))
  have K22 := Lib.hid (K16.out.ext (hx))
  have K23 := Lib.hid (K17.out.ext (hx))
  have K24 := Lib.hid (K18.out.ext (hx))
  clear K13 K14 K15 K16 K17 K18
  have K25 := Lib.hid (hr)
  clear hr hx
  go_wp2_with fail
  refine (eval_is C f (trim (Pol.addP a b)) x (Pol.ev a x ^^^ Pol.ev b x) S1 s1 _ K23.out K24.out hx0 (by have := LA.out; omega) E3.out).mono ?_
  rintro e v5 ⟨rfl, hx⟩
  have K26 := Lib.hid (K19.out.trans (hx))
  have K27 := Lib.hid (K20.out.ext (hx))
  have K28 := Lib.hid (K21.out.ext (hx))
  have K29 := Lib.hid (K22.out.ext (hx))
  have K30 := Lib.hid (K23.out.ext (hx))
  have K31 := Lib.hid (K24.out.ext (hx))
  have K32 := Lib.hid (K25.out.ext (hx))
  clear K19 K20 K21 K22 K23 K24 K25
  clear hx
  go_wp2_with fail
  refine (C.eval f a x A ca _ K30.out K27.out hx0 (by omega)).mono ?_
  rintro e v6 ⟨rfl, hx⟩
  have K33 := Lib.hid (K26.out.trans (hx))
  have K34 := Lib.hid (K27.out.ext (hx))
  have K35 := Lib.hid (K28.out.ext (hx))
  have K36 := Lib.hid (K29.out.ext (hx))
  have K37 := Lib.hid (K30.out.ext (hx))
  have K38 := Lib.hid (K31.out.ext (hx))
  have K39 := Lib.hid (K32.out.ext (hx))
  clear K26 K27 K28 K29 K30 K31 K32
  clear hx
  go_wp2_with fail
  refine (C.eval f b x B cb _ K37.out K35.out hx0 (by omega)).mono ?_
  rintro e v7 ⟨rfl, hx⟩
  have K40 := Lib.hid (K33.out.trans (hx))
  have K41 := Lib.hid (K34.out.ext (hx))
  have K42 := Lib.hid (K35.out.ext (hx))
  have K43 := Lib.hid (K36.out.ext (hx))
  have K44 := Lib.hid (K37.out.ext (hx))
  have K45 := Lib.hid (K38.out.ext (hx))
  have K46 := Lib.hid (K39.out.ext (hx))
  clear K33 K34 K35 K36 K37 K38 K39
  clear hx
  go_wp2_with fail
  refine (add_is (Pol.ev a x) (Pol.ev b x) _ hea heb rfl _).mono ?_
  rintro e v' ⟨rfl, rfl⟩
  go_wp2_with fail
  refine (eval_is C f (trim (Pol.mulP a b)) x (Gf.mul (Pol.ev a x) (Pol.ev b x)) P1 p1 _ K44.out K46.out hx0 (by have := LM.out; omega) E4.out).mono ?_
  rintro e v8 ⟨rfl, hx⟩
  have K47 := Lib.hid (K40.out.trans (hx))
  have K48 := Lib.hid (K41.out.ext (hx))
  have K49 := Lib.hid (K42.out.ext (hx))
  have K50 := Lib.hid (K43.out.ext (hx))
  have K51 := Lib.hid (K44.out.ext (hx))
  have K52 := Lib.hid (K45.out.ext (hx))
  have K53 := Lib.hid (K46.out.ext (hx))
  clear K40 K41 K42 K43 K44 K45 K46
  clear hx
  go_wp2_with fail
  refine (C.eval f a x A ca _ K51.out K48.out hx0 (by omega)).mono ?_
  rintro e v9 ⟨rfl, hx⟩
  have K54 := Lib.hid (K47.out.trans (hx))
  have K55 := Lib.hid (K48.out.ext (hx))
  have K56 := Lib.hid (K49.out.ext (hx))
  have K57 := Lib.hid (K50.out.ext (hx))
  have K58 := Lib.hid (K51.out.ext (hx))
  have K59 := Lib.hid (K52.out.ext (hx))
  have K60 := Lib.hid (K53.out.ext (hx))
  clear K47 K48 K49 K50 K51 K52 K53
  clear hx
  go_wp2_with fail
  refine (C.eval f b x B cb _ K58.out K56.out hx0 (by omega)).mono ?_
  rintro e v10 ⟨rfl, hx⟩
  have K61 := Lib.hid (K54.out.trans (hx))
  have K62 := Lib.hid (K55.out.ext (hx))
  have K63 := Lib.hid (K56.out.ext (hx))
  have K64 := Lib.hid (K57.out.ext (hx))
  have K65 := Lib.hid (K58.out.ext (hx))
  have K66 := Lib.hid (K59.out.ext (hx))
  have K67 := Lib.hid (K60.out.ext (hx))
  clear K54 K55 K56 K57 K58 K59 K60
  clear hx
  go_wp2_with fail
  refine ((mul_any f (Pol.ev a x) (Pol.ev b x) _ K65.out hea heb).mono fun _ _ h => h.tells).mono ?_
  rintro e v11 ⟨rfl, hx⟩
  have K68 := Lib.hid (K61.out.trans (hx))
  have K69 := Lib.hid (K62.out.ext (hx))
  have K70 := Lib.hid (K63.out.ext (hx))
  have K71 := Lib.hid (K64.out.ext (hx))
  have K72 := Lib.hid (K65.out.ext (hx))
  have K73 := Lib.hid (K66.out.ext (hx))
  have K74 := Lib.hid (K67.out.ext (hx))
  clear K61 K62 K63 K64 K65 K66 K67
  clear hx
  go_wp2_with fail
  refine (C.add b d B D cb cd _ K70.out K71.out hcb hcd (by omega) (by omega)).mono ?_
  rintro e v12 ⟨S2, s2, rfl, hc3, hr, hx⟩
  have K75 := Lib.hid (K68.out.trans (hx))
  have K76 := Lib.hid (K69.out.ext (hx))
  have K77 := Lib.hid (K70.out.ext (hx))
  have K78 := Lib.hid (K71.out.ext (hx))
  have K79 := Lib.hid (K72.out.ext (hx))
  have K80 := Lib.hid (K73.out.ext (hx))
  have K81 := Lib.hid (K74.out.ext (hx))
  clear K68 K69 K70 K71 K72 K73 K74
  have K82 := Lib.hid (hr)
  clear hr hx
  go_wp2_with fail
  refine (C.mul f a (trim (Pol.addP b d)) A S2 ca s2 _ K79.out K76.out K82.out hca hc3 (by omega) (by have := LB.out; omega)).mono ?_
  rintro e v13 ⟨P2, p2, rfl, _, hr, hx⟩
  have K83 := Lib.hid (K75.out.trans (hx))
  have K84 := Lib.hid (K76.out.ext (hx))
  have K85 := Lib.hid (K77.out.ext (hx))
  have K86 := Lib.hid (K78.out.ext (hx))
  have K87 := Lib.hid (K79.out.ext (hx))
  have K88 := Lib.hid (K80.out.ext (hx))
  have K89 := Lib.hid (K81.out.ext (hx))
  have K90 := Lib.hid (K82.out.ext (hx))
  clear K75 K76 K77 K78 K79 K80 K81 K82
  rw [E1.out] at hr ⊢
  have K91 := Lib.hid (hr)
  clear hr hx
  go_wp2_with fail
  refine (C.mul f a d A D ca cd _ K87.out K84.out K86.out hca hcd (by omega) (by omega)).mono ?_
  rintro e v14 ⟨P3, p3, rfl, hc4, hr, hx⟩
  have K92 := Lib.hid (K83.out.trans (hx))
  have K93 := Lib.hid (K84.out.ext (hx))
  have K94 := Lib.hid (K85.out.ext (hx))
  have K95 := Lib.hid (K86.out.ext (hx))
  have K96 := Lib.hid (K87.out.ext (hx))
  have K97 := Lib.hid (K88.out.ext (hx))
  have K98 := Lib.hid (K89.out.ext (hx))
  have K99 := Lib.hid (K91.out.ext (hx))
  clear K83 K84 K85 K86 K87 K88 K89 K91
  have K100 := Lib.hid (hr)
  clear hr hx
  go_wp2_with fail
  refine (C.add (trim (Pol.mulP a b)) (trim (Pol.mulP a d)) P1 P3 p1 p3 _ K98.out K100.out hc2 hc4 (by have := LM.out; omega) (by have := LD.out; omega)).mono ?_
  rintro e v15 ⟨S3, s3, rfl, _, hr, hx⟩
  have K101 := Lib.hid (K92.out.trans (hx))
  have K102 := Lib.hid (K93.out.ext (hx))
  have K103 := Lib.hid (K94.out.ext (hx))
  have K104 := Lib.hid (K95.out.ext (hx))
  have K105 := Lib.hid (K96.out.ext (hx))
  have K106 := Lib.hid (K97.out.ext (hx))
  have K107 := Lib.hid (K98.out.ext (hx))
  have K108 := Lib.hid (K99.out.ext (hx))
  have K109 := Lib.hid (K100.out.ext (hx))
  clear K92 K93 K94 K95 K96 K97 K98 K99 K100
  rw [E2.out] at hr ⊢
  have K110 := Lib.hid (hr)
  clear hr hx
  go_wp2_with fail
  refine (same_tells _ P2 S3 p2 s3 _ K108.out K110.out (by have := LG.out; omega)).mono ?_
  rintro e v16 ⟨rfl, hx⟩
  have K111 := Lib.hid (K101.out.trans (hx))
  have K112 := Lib.hid (K102.out.ext (hx))
  have K113 := Lib.hid (K103.out.ext (hx))
  have K114 := Lib.hid (K104.out.ext (hx))
  have K115 := Lib.hid (K105.out.ext (hx))
  have K116 := Lib.hid (K106.out.ext (hx))
  have K117 := Lib.hid (K107.out.ext (hx))
  have K118 := Lib.hid (K108.out.ext (hx))
  have K119 := Lib.hid (K110.out.ext (hx))
  clear K101 K102 K103 K104 K105 K106 K107 K108 K110
  clear hx
  go_wp2_with fail
  refine (C.divZero f (trim (Pol.mulP a b)) b P1 B p1 cb _ K115.out K117.out K113.out hc2 hcb (by have := LM.out; omega) (by omega) H0.out).mono ?_
  rintro e v17 ⟨vq, vr, rfl, ⟨Bq, cq, rfl, _, _⟩, ⟨Br, cr, rfl, _, _⟩, hx⟩
  have K120 := Lib.hid (K111.out.trans (hx))
  have K121 := Lib.hid (K112.out.ext (hx))
  have K122 := Lib.hid (K113.out.ext (hx))
  have K123 := Lib.hid (K114.out.ext (hx))
  have K124 := Lib.hid (K115.out.ext (hx))
  have K125 := Lib.hid (K116.out.ext (hx))
  have K126 := Lib.hid (K117.out.ext (hx))
  clear K111 K112 K113 K114 K115 K116 K117
  clear hx
  go_wp2_with fail
  refine (degree_is C b (-1) B cb _ K122.out (by omega) (by rw [H0.out]; rfl)).mono ?_
  rintro e v18 ⟨rfl, hx⟩
  have K127 := Lib.hid (K120.out.trans (hx))
  have K128 := Lib.hid (K121.out.ext (hx))
  have K129 := Lib.hid (K122.out.ext (hx))
  have K130 := Lib.hid (K123.out.ext (hx))
  have K131 := Lib.hid (K124.out.ext (hx))
  have K132 := Lib.hid (K125.out.ext (hx))
  have K133 := Lib.hid (K126.out.ext (hx))
  clear K120 K121 K122 K123 K124 K125 K126
  clear hx
  go_wp2_with fail
  go_ret
  exact ⟨rfl, K127.out⟩

set_option maxHeartbeats 1000000 in
set_option maxRecDepth 100000 in
theorem ring2_half (C : PolySaid) (a b d : List Nat) (x : Nat) (A B D : Option Addr) (ca cb cd : Nat) (w : World) (ha : Rd w A a) (hb : Rd w B b) (hd : Rd w D d) (hca : a.length ≤ ca) (hcb : b.length ≤ cb) (hcd : d.length ≤ cd) (hx0 : x < 256) (hla : a.length ≤ 40) (hlb : b.length ≤ 40) (hld : d.length ≤ 40) (h0 : trim b ≠ []) (h1 : trim a = []) : Calls Try.prog 8 #[.slice A a.length ca, .slice B b.length cb, .slice D d.length cd, .int .u8 (x : Int)] w (Holds w) := by
  have hIa : ¬ (40 : Int) < (a.length : Int) := by omega
  have hIb : ¬ (40 : Int) < (b.length : Int) := by omega
  have hId : ¬ (40 : Int) < (d.length : Int) := by omega
  have hsa := ha.1
  have hsb := hb.1
  have hsd := hd.1
  have LA := Lib.hid (len_addP a b (by omega) (by omega))
  have LM := Lib.hid (len_mulP a b (by omega) (by omega))
  have LB := Lib.hid (len_addP b d (by omega) (by omega))
  have LD := Lib.hid (len_mulP a d (by omega) (by omega))
  have e1 : trim (Pol.mulP a (trim (Pol.addP b d))) = trim (Pol.mulP a (Pol.addP b d)) := Pol.trim_ext _ _ (fun j => Pol.mulP_congr _ _ _ _ (fun _ => rfl) (Pol.co_trim _) j)
  have e2 : trim (Pol.addP (trim (Pol.mulP a b)) (trim (Pol.mulP a d))) = trim (Pol.mulP a (Pol.addP b d)) := Pol.trim_ext _ _ (fun j => by
    rw [Pol.co_addP, Pol.co_trim, Pol.co_trim, Pol.mulP_add_right a b d hsa hsb hsd])
  have LG := Lib.hid (show (trim (Pol.mulP a (Pol.addP b d))).length ≤ 2000 from len_mulP a _ (by omega) (by rw [Pol.addP_len]; omega))
  have e3 : Pol.ev (trim (Pol.addP a b)) x = Pol.ev a x ^^^ Pol.ev b x := by rw [Pol.ev_trim, Pol.ev_addP a b x hsa hsb hx0]
  have e4 : Pol.ev (trim (Pol.mulP a b)) x = Gf.mul (Pol.ev a x) (Pol.ev b x) := by rw [Pol.ev_trim, Pol.ev_mulP a b x hsa hsb hx0]
  have hea := Pol.ev_lt a x hsa
  have heb := Pol.ev_lt b x hsb
  have E1 := Lib.hid e1
  have E2 := Lib.hid e2
  have E3 := Lib.hid e3
  have E4 := Lib.hid e4
  have SA := Lib.hid hsa
  have SB := Lib.hid hsb
  clear e1 e2 e3 e4 hsa hsb hsd
  have H0 := Lib.hid h0
  have H1 := Lib.hid h1
  clear h0 h1
  have X0 := Lib.hid (Ext.refl w)
  have K1 := Lib.hid (ha)
  have K2 := Lib.hid (hb)
  have K3 := Lib.hid (hd)
  clear ha hb hd
  go_enter Try.func8, Try.ntmps8
  go_wp2_with fail
  refine (awake2 C _).mono ?_
  rintro e v1 ⟨rfl, hx⟩
  have K4 := Lib.hid (X0.out.trans (hx))
  have K5 := Lib.hid (K1.out.ext (hx))
  have K6 := Lib.hid (K2.out.ext (hx))
  have K7 := Lib.hid (K3.out.ext (hx))
  clear X0 K1 K2 K3
  clear hx
  go_wp2_with fail
  refine (new_any _).mono ?_
  rintro e v2 ⟨f, rfl, hf, _, hx⟩
  have K8 := Lib.hid (K4.out.trans (hx))
  have K9 := Lib.hid (K5.out.ext (hx))
  have K10 := Lib.hid (K6.out.ext (hx))
  have K11 := Lib.hid (K7.out.ext (hx))
  clear K4 K5 K6 K7
  have K12 := Lib.hid (hf)
  clear hf hx
  go_wp2_with fail
  refine (C.add a b A B ca cb _ K9.out K10.out hca hcb (by omega) (by omega)).mono ?_
  rintro e v3 ⟨S1, s1, rfl, hc1, hr, hx⟩
  have K13 := Lib.hid (K8.out.trans (hx))
  have K14 := Lib.hid (K9.out.ext (hx))
  have K15 := Lib.hid (K10.out.ext (hx))
  have K16 := Lib.hid (K11.out.ext (hx))
  have K17 := Lib.hid (K12.out.ext (hx))
  clear K8 K9 K10 K11 K12
  have K18 := Lib.hid (hr)
  clear hr hx
  go_wp2_with fail
  refine (C.mul f a b A B ca cb _ K17.out K14.out K15.out hca hcb (by omega) (by omega)).mono ?_
  rintro e v4 ⟨P1, p1, rfl, hc2, hr, hx⟩
  have K19 := Lib.hid (K13.out.trans (hx))
  have K20 := Lib.hid (K14.out.ext (hx))
  have K21 := Lib.hid (K15.out.ext (hx))
  have K22 := Lib.hid (K16.out.ext (hx))
  have K23 := Lib.hid (K17.out.ext (hx))
  have K24 := Lib.hid (K18.out.ext (hx))
  clear K13 K14 K15 K16 K17 K18
  have K25 := Lib.hid (hr)
  clear hr hx
  go_wp2_with fail
  refine (eval_is C f (trim (Pol.addP a b)) x (Pol.ev a x ^^^ Pol.ev b x) S1 s1 _ K23.out K24.out hx0 (by have := LA.out; omega) E3.out).mono ?_
  rintro e v5 ⟨rfl, hx⟩
  have K26 := Lib.hid (K19.out.trans (hx))
  have K27 := Lib.hid (K20.out.ext (hx))
  have K28 := Lib.hid (K21.out.ext (hx))
  have K29 := Lib.hid (K22.out.ext (hx))
  have K30 := Lib.hid (K23.out.ext (hx))
  have K31 := Lib.hid (K24.out.ext (hx))
  have K32 := Lib.hid (K25.out.ext (hx))
  clear K19 K20 K21 K22 K23 K24 K25
  clear hx
  go_wp2_with fail
  refine (C.eval f a x A ca _ K30.out K27.out hx0 (by omega)).mono ?_
  rintro e v6 ⟨rfl, hx⟩
  have K33 := Lib.hid (K26.out.trans (hx))
  have K34 := Lib.hid (K27.out.ext (hx))
  have K35 := Lib.hid (K28.out.ext (hx))
  have K36 := Lib.hid (K29.out.ext (hx))
  have K37 := Lib.hid (K30.out.ext (hx))
  have K38 := Lib.hid (K31.out.ext (hx))
  have K39 := Lib.hid (K32.out.ext (hx))
  clear K26 K27 K28 K29 K30 K31 K32
  clear hx
  go_wp2_with fail
  refine (C.eval f b x B cb _ K37.out K35.out hx0 (by omega)).mono ?_
  rintro e v7 ⟨rfl, hx⟩
  have K40 := Lib.hid (K33.out.trans (hx))
  have K41 := Lib.hid (K34.out.ext (hx))
  have K42 := Lib.hid (K35.out.ext (hx))
  have K43 := Lib.hid (K36.out.ext (hx))
  have K44 := Lib.hid (K37.out.ext (hx))
  have K45 := Lib.hid (K38.out.ext (hx))
  have K46 := Lib.hid (K39.out.ext (hx))
  clear K33 K34 K35 K36 K37 K38 K39
  clear hx
  go_wp2_with fail
  refine (add_is (Pol.ev a x) (Pol.ev b x) _ hea heb rfl _).mono ?_
  rintro e v' ⟨rfl, rfl⟩
  go_wp2_with fail
  refine (eval_is C f (trim (Pol.mulP a b)) x (Gf.mul (Pol.ev a x) (Pol.ev b x)) P1 p1 _ K44.out K46.out hx0 (by have := LM.out; omega) E4.out).mono ?_
  rintro e v8 ⟨rfl, hx⟩
  have K47 := Lib.hid (K40.out.trans (hx))
  have K48 := Lib.hid (K41.out.ext (hx))
  have K49 := Lib.hid (K42.out.ext (hx))
  have K50 := Lib.hid (K43.out.ext (hx))
  have K51 := Lib.hid (K44.out.ext (hx))
  have K52 := Lib.hid (K45.out.ext (hx))
  have K53 := Lib.hid (K46.out.ext (hx))
  clear K40 K41 K42 K43 K44 K45 K46
  clear hx
  go_wp2_with fail
  refine (C.eval f a x A ca _ K51.out K48.out hx0 (by omega)).mono ?_
  rintro e v9 ⟨rfl, hx⟩
  have K54 := Lib.hid (K47.out.trans (hx))
  have K55 := Lib.hid (K48.out.ext (hx))
  have K56 := Lib.hid (K49.out.ext (hx))
  have K57 := Lib.hid (K50.out.ext (hx))
  have K58 := Lib.hid (K51.out.ext (hx))
  have K59 := Lib.hid (K52.out.ext (hx))
  have K60 := Lib.hid (K53.out.ext (hx))
  clear K47 K48 K49 K50 K51 K52 K53
  clear hx
  go_wp2_with fail
  refine (C.eval f b x B cb _ K58.out K56.out hx0 (by omega)).mono ?_
  rintro e v10 ⟨rfl, hx⟩
  have K61 := Lib.hid (K54.out.trans (hx))
  have K62 := Lib.hid (K55.out.ext (hx))
  have K63 := Lib.hid (K56.out.ext (hx))
  have K64 := Lib.hid (K57.out.ext (hx))
  have K65 := Lib.hid (K58.out.ext (hx))
  have K66 := Lib.hid (K59.out.ext (hx))
  have K67 := Lib.hid (K60.out.ext (hx))
  clear K54 K55 K56 K57 K58 K59 K60
  clear hx
  go_wp2_with fail
  refine ((mul_any f (Pol.ev a x) (Pol.ev b x) _ K65.out hea heb).mono fun _ _ h => h.tells).mono ?_
  rintro e v11 ⟨rfl, hx⟩
  have K68 := Lib.hid (K61.out.trans (hx))
  have K69 := Lib.hid (K62.out.ext (hx))
  have K70 := Lib.hid (K63.out.ext (hx))
  have K71 := Lib.hid (K64.out.ext (hx))
  have K72 := Lib.hid (K65.out.ext (hx))
  have K73 := Lib.hid (K66.out.ext (hx))
  have K74 := Lib.hid (K67.out.ext (hx))
  clear K61 K62 K63 K64 K65 K66 K67
  clear hx
  go_wp2_with fail
  refine (C.add b d B D cb cd _ K70.out K71.out hcb hcd (by omega) (by omega)).mono ?_
  rintro e v12 ⟨S2, s2, rfl, hc3, hr, hx⟩
  have K75 := Lib.hid (K68.out.trans (hx))
  have K76 := Lib.hid (K69.out.ext (hx))
  have K77 := Lib.hid (K70.out.ext (hx))
  have K78 := Lib.hid (K71.out.ext (hx))
  have K79 := Lib.hid (K72.out.ext (hx))
  have K80 := Lib.hid (K73.out.ext (hx))
  have K81 := Lib.hid (K74.out.ext (hx))
  clear K68 K69 K70 K71 K72 K73 K74
  have K82 := Lib.hid (hr)
  clear hr hx
  go_wp2_with fail
  refine (C.mul f a (trim (Pol.addP b d)) A S2 ca s2 _ K79.out K76.out K82.out hca hc3 (by omega) (by have := LB.out; omega)).mono ?_
  rintro e v13 ⟨P2, p2, rfl, _, hr, hx⟩
  have K83 := Lib.hid (K75.out.trans (hx))
  have K84 := Lib.hid (K76.out.ext (hx))
  have K85 := Lib.hid (K77.out.ext (hx))
  have K86 := Lib.hid (K78.out.ext (hx))
  have K87 := Lib.hid (K79.out.ext (hx))
  have K88 := Lib.hid (K80.out.ext (hx))
  have K89 := Lib.hid (K81.out.ext (hx))
  have K90 := Lib.hid (K82.out.ext (hx))
  clear K75 K76 K77 K78 K79 K80 K81 K82
  rw [E1.out] at hr ⊢
  have K91 := Lib.hid (hr)
  clear hr hx
  go_wp2_with fail
  refine (C.mul f a d A D ca cd _ K87.out K84.out K86.out hca hcd (by omega) (by omega)).mono ?_
  rintro e v14 ⟨P3, p3, rfl, hc4, hr, hx⟩
  have K92 := Lib.hid (K83.out.trans (hx))
  have K93 := Lib.hid (K84.out.ext (hx))
  have K94 := Lib.hid (K85.out.ext (hx))
  have K95 := Lib.hid (K86.out.ext (hx))
  have K96 := Lib.hid (K87.out.ext (hx))
  have K97 := Lib.hid (K88.out.ext (hx))
  have K98 := Lib.hid (K89.out.ext (hx))
  have K99 := Lib.hid (K91.out.ext (hx))
  clear K83 K84 K85 K86 K87 K88 K89 K91
  have K100 := Lib.hid (hr)
  clear hr hx
  go_wp2_with fail
  refine (C.add (trim (Pol.mulP a b)) (trim (Pol.mulP a d)) P1 P3 p1 p3 _ K98.out K100.out hc2 hc4 (by have := LM.out; omega) (by have := LD.out; omega)).mono ?_
  rintro e v15 ⟨S3, s3, rfl, _, hr, hx⟩
  have K101 := Lib.hid (K92.out.trans (hx))
  have K102 := Lib.hid (K93.out.ext (hx))
  have K103 := Lib.hid (K94.out.ext (hx))
  have K104 := Lib.hid (K95.out.ext (hx))
  have K105 := Lib.hid (K96.out.ext (hx))
  have K106 := Lib.hid (K97.out.ext (hx))
  have K107 := Lib.hid (K98.out.ext (hx))
  have K108 := Lib.hid (K99.out.ext (hx))
  have K109 := Lib.hid (K100.out.ext (hx))
  clear K92 K93 K94 K95 K96 K97 K98 K99 K100
  rw [E2.out] at hr ⊢
  have K110 := Lib.hid (hr)
  clear hr hx
  go_wp2_with fail
  refine (same_tells _ P2 S3 p2 s3 _ K108.out K110.out (by have := LG.out; omega)).mono ?_
  rintro e v16 ⟨rfl, hx⟩
  have K111 := Lib.hid (K101.out.trans (hx))
  have K112 := Lib.hid (K102.out.ext (hx))
  have K113 := Lib.hid (K103.out.ext (hx))
  have K114 := Lib.hid (K104.out.ext (hx))
  have K115 := Lib.hid (K105.out.ext (hx))
  have K116 := Lib.hid (K106.out.ext (hx))
  have K117 := Lib.hid (K107.out.ext (hx))
  have K118 := Lib.hid (K108.out.ext (hx))
  have K119 := Lib.hid (K110.out.ext (hx))
  clear K101 K102 K103 K104 K105 K106 K107 K108 K110
  clear hx
  go_wp2_with fail
  refine (C.div f (trim (Pol.mulP a b)) b P1 B p1 cb _ K115.out K117.out K113.out hc2 hcb (by have := LM.out; omega) (by omega) H0.out).mono ?_
  rintro e v17 ⟨vq, vr, q, r, rfl, hvq, hvr, tq, tr, hqr, hlen, _, hx⟩
  have K120 := Lib.hid (K111.out.trans (hx))
  have K121 := Lib.hid (K112.out.ext (hx))
  have K122 := Lib.hid (K113.out.ext (hx))
  have K123 := Lib.hid (K114.out.ext (hx))
  have K124 := Lib.hid (K115.out.ext (hx))
  have K125 := Lib.hid (K116.out.ext (hx))
  have K126 := Lib.hid (K117.out.ext (hx))
  clear K111 K112 K113 K114 K115 K116 K117
  clear hx
  obtain ⟨Bq, cq, rfl, hcq, hrq⟩ := hvq
  obtain ⟨Br, cr, rfl, hcr, hrr⟩ := hvr
  obtain ⟨rfl, rfl⟩ := back a b q r SA.out SB.out hrq.1 H0.out tq tr hqr hlen
  have K127 := Lib.hid (hrq)
  clear hrq hrr tq tr hqr hlen hcq hcr
  have hbI : ¬ (((trim b).length : Nat) : Int) - 1 < 0 := by have := List.length_pos_iff.2 H0.out; omega
  go_wp2_with fail
  refine (C.degree b B cb _ K122.out (by omega)).mono ?_
  rintro e v18 ⟨rfl, hx⟩
  have K128 := Lib.hid (K120.out.trans (hx))
  have K129 := Lib.hid (K121.out.ext (hx))
  have K130 := Lib.hid (K122.out.ext (hx))
  have K131 := Lib.hid (K123.out.ext (hx))
  have K132 := Lib.hid (K124.out.ext (hx))
  have K133 := Lib.hid (K125.out.ext (hx))
  have K134 := Lib.hid (K126.out.ext (hx))
  have K135 := Lib.hid (K127.out.ext (hx))
  clear K120 K121 K122 K123 K124 K125 K126 K127
  clear hx
  go_wp2_with fail
  refine (C.trims a A ca _ K129.out hca (by omega)).mono ?_
  rintro e v19 ⟨T1, t1, rfl, _, hr, hx⟩
  have K136 := Lib.hid (K128.out.trans (hx))
  have K137 := Lib.hid (K129.out.ext (hx))
  have K138 := Lib.hid (K130.out.ext (hx))
  have K139 := Lib.hid (K131.out.ext (hx))
  have K140 := Lib.hid (K132.out.ext (hx))
  have K141 := Lib.hid (K133.out.ext (hx))
  have K142 := Lib.hid (K134.out.ext (hx))
  have K143 := Lib.hid (K135.out.ext (hx))
  clear K128 K129 K130 K131 K132 K133 K134 K135
  have K144 := Lib.hid (hr)
  clear hr hx
  go_wp2_with fail
  refine (same_tells (trim a) Bq T1 cq t1 _ K143.out K144.out (by have := Pol.trim_len a; omega)).mono ?_
  rintro e v20 ⟨rfl, hx⟩
  have K145 := Lib.hid (K136.out.trans (hx))
  have K146 := Lib.hid (K137.out.ext (hx))
  have K147 := Lib.hid (K138.out.ext (hx))
  have K148 := Lib.hid (K139.out.ext (hx))
  have K149 := Lib.hid (K140.out.ext (hx))
  have K150 := Lib.hid (K141.out.ext (hx))
  have K151 := Lib.hid (K142.out.ext (hx))
  have K152 := Lib.hid (K143.out.ext (hx))
  have K153 := Lib.hid (K144.out.ext (hx))
  clear K136 K137 K138 K139 K140 K141 K142 K143 K144
  clear hx
  go_wp2_with fail
  refine (degree_is C a (-1) A ca _ K146.out (by omega) (by rw [H1.out]; rfl)).mono ?_
  rintro e v21 ⟨rfl, hx⟩
  have K154 := Lib.hid (K145.out.trans (hx))
  have K155 := Lib.hid (K146.out.ext (hx))
  have K156 := Lib.hid (K147.out.ext (hx))
  have K157 := Lib.hid (K148.out.ext (hx))
  have K158 := Lib.hid (K149.out.ext (hx))
  have K159 := Lib.hid (K150.out.ext (hx))
  have K160 := Lib.hid (K151.out.ext (hx))
  clear K145 K146 K147 K148 K149 K150 K151
  clear hx
  go_wp2_with fail
  go_ret
  exact ⟨rfl, K154.out⟩

set_option maxHeartbeats 1000000 in
set_option maxRecDepth 100000 in
theorem ring2_of (C : PolySaid) (a b d : List Nat) (x : Nat) (A B D : Option Addr) (ca cb cd : Nat) (w : World) (ha : Rd w A a) (hb : Rd w B b) (hd : Rd w D d) (hca : a.length ≤ ca) (hcb : b.length ≤ cb) (hcd : d.length ≤ cd) (hx0 : x < 256) (hla : a.length ≤ 40) (hlb : b.length ≤ 40) (hld : d.length ≤ 40) (h0 : trim b ≠ []) (h1 : trim a ≠ []) : Calls Try.prog 8 #[.slice A a.length ca, .slice B b.length cb, .slice D d.length cd, .int .u8 (x : Int)] w (Holds w) := by
  have hIa : ¬ (40 : Int) < (a.length : Int) := by omega
  have hIb : ¬ (40 : Int) < (b.length : Int) := by omega
  have hId : ¬ (40 : Int) < (d.length : Int) := by omega
  have hsa := ha.1
  have hsb := hb.1
  have hsd := hd.1
  have LA := Lib.hid (len_addP a b (by omega) (by omega))
  have LM := Lib.hid (len_mulP a b (by omega) (by omega))
  have LB := Lib.hid (len_addP b d (by omega) (by omega))
  have LD := Lib.hid (len_mulP a d (by omega) (by omega))
  have e1 : trim (Pol.mulP a (trim (Pol.addP b d))) = trim (Pol.mulP a (Pol.addP b d)) := Pol.trim_ext _ _ (fun j => Pol.mulP_congr _ _ _ _ (fun _ => rfl) (Pol.co_trim _) j)
  have e2 : trim (Pol.addP (trim (Pol.mulP a b)) (trim (Pol.mulP a d))) = trim (Pol.mulP a (Pol.addP b d)) := Pol.trim_ext _ _ (fun j => by
    rw [Pol.co_addP, Pol.co_trim, Pol.co_trim, Pol.mulP_add_right a b d hsa hsb hsd])
  have LG := Lib.hid (show (trim (Pol.mulP a (Pol.addP b d))).length ≤ 2000 from len_mulP a _ (by omega) (by rw [Pol.addP_len]; omega))
  have e3 : Pol.ev (trim (Pol.addP a b)) x = Pol.ev a x ^^^ Pol.ev b x := by rw [Pol.ev_trim, Pol.ev_addP a b x hsa hsb hx0]
  have e4 : Pol.ev (trim (Pol.mulP a b)) x = Gf.mul (Pol.ev a x) (Pol.ev b x) := by rw [Pol.ev_trim, Pol.ev_mulP a b x hsa hsb hx0]
  have hea := Pol.ev_lt a x hsa
  have heb := Pol.ev_lt b x hsb
  have E1 := Lib.hid e1
  have E2 := Lib.hid e2
  have E3 := Lib.hid e3
  have E4 := Lib.hid e4
  have SA := Lib.hid hsa
  have SB := Lib.hid hsb
  clear e1 e2 e3 e4 hsa hsb hsd
  have H0 := Lib.hid h0
  have H1 := Lib.hid h1
  clear h0 h1
  have X0 := Lib.hid (Ext.refl w)
  have K1 := Lib.hid (ha)
  have K2 := Lib.hid (hb)
  have K3 := Lib.hid (hd)
  clear ha hb hd
  go_enter Try.func8, Try.ntmps8
  go_wp2_with fail
  refine (awake2 C _).mono ?_
  rintro e v1 ⟨rfl, hx⟩
  have K4 := Lib.hid (X0.out.trans (hx))
  have K5 := Lib.hid (K1.out.ext (hx))
  have K6 := Lib.hid (K2.out.ext (hx))
  have K7 := Lib.hid (K3.out.ext (hx))
  clear X0 K1 K2 K3
  clear hx
  go_wp2_with fail
  refine (new_any _).mono ?_
  rintro e v2 ⟨f, rfl, hf, _, hx⟩
  have K8 := Lib.hid (K4.out.trans (hx))
  have K9 := Lib.hid (K5.out.ext (hx))
  have K10 := Lib.hid (K6.out.ext (hx))
  have K11 := Lib.hid (K7.out.ext (hx))
  clear K4 K5 K6 K7
  have K12 := Lib.hid (hf)
  clear hf hx
  go_wp2_with fail
  refine (C.add a b A B ca cb _ K9.out K10.out hca hcb (by omega) (by omega)).mono ?_
  rintro e v3 ⟨S1, s1, rfl, hc1, hr, hx⟩
  have K13 := Lib.hid (K8.out.trans (hx))
  have K14 := Lib.hid (K9.out.ext (hx))
  have K15 := Lib.hid (K10.out.ext (hx))
  have K16 := Lib.hid (K11.out.ext (hx))
  have K17 := Lib.hid (K12.out.ext (hx))
  clear K8 K9 K10 K11 K12
  have K18 := Lib.hid (hr)
  clear hr hx
  go_wp2_with fail
  refine (C.mul f a b A B ca cb _ K17.out K14.out K15.out hca hcb (by omega) (by omega)).mono ?_
  rintro e v4 ⟨P1, p1, rfl, hc2, hr, hx⟩
  have K19 := Lib.hid (K13.out.trans (hx))
  have K20 := Lib.hid (K14.out.ext (hx))
  have K21 := Lib.hid (K15.out.ext (hx))
  have K22 := Lib.hid (K16.out.ext (hx))
  have K23 := Lib.hid (K17.out.ext (hx))
  have K24 := Lib.hid (K18.out.ext (hx))
  clear K13 K14 K15 K16 K17 K18
  have K25 := Lib.hid (hr)
  clear hr hx
  go_wp2_with fail
  refine (eval_is C f (trim (Pol.addP a b)) x (Pol.ev a x ^^^ Pol.ev b x) S1 s1 _ K23.out K24.out hx0 (by have := LA.out; omega) E3.out).mono ?_
  rintro e v5 ⟨rfl, hx⟩
  have K26 := Lib.hid (K19.out.trans (hx))
  have K27 := Lib.hid (K20.out.ext (hx))
  have K28 := Lib.hid (K21.out.ext (hx))
  have K29 := Lib.hid (K22.out.ext (hx))
  have K30 := Lib.hid (K23.out.ext (hx))
  have K31 := Lib.hid (K24.out.ext (hx))
  have K32 := Lib.hid (K25.out.ext (hx))
  clear K19 K20 K21 K22 K23 K24 K25
  clear hx
  go_wp2_with fail
  refine (C.eval f a x A ca _ K30.out K27.out hx0 (by omega)).mono ?_
  rintro e v6 ⟨rfl, hx⟩
  have K33 := Lib.hid (K26.out.trans (hx))
  have K34 := Lib.hid (K27.out.ext (hx))
  have K35 := Lib.hid (K28.out.ext (hx))
  have K36 := Lib.hid (K29.out.ext (hx))
  have K37 := Lib.hid (K30.out.ext (hx))
  have K38 := Lib.hid (K31.out.ext (hx))
  have K39 := Lib.hid (K32.out.ext (hx))
  clear K26 K27 K28 K29 K30 K31 K32
  clear hx
  go_wp2_with fail
  refine (C.eval f b x B cb _ K37.out K35.out hx0 (by omega)).mono ?_
  rintro e v7 ⟨rfl, hx⟩
  have K40 := Lib.hid (K33.out.trans (hx))
  have K41 := Lib.hid (K34.out.ext (hx))
  have K42 := Lib.hid (K35.out.ext (hx))
  have K43 := Lib.hid (K36.out.ext (hx))
  have K44 := Lib.hid (K37.out.ext (hx))
  have K45 := Lib.hid (K38.out.ext (hx))
  have K46 := Lib.hid (K39.out.ext (hx))
  clear K33 K34 K35 K36 K37 K38 K39
  clear hx
  go_wp2_with fail
  refine (add_is (Pol.ev a x) (Pol.ev b x) _ hea heb rfl _).mono ?_
  rintro e v' ⟨rfl, rfl⟩
  go_wp2_with fail
  refine (eval_is C f (trim (Pol.mulP a b)) x (Gf.mul (Pol.ev a x) (Pol.ev b x)) P1 p1 _ K44.out K46.out hx0 (by have := LM.out; omega) E4.out).mono ?_
  rintro e v8 ⟨rfl, hx⟩
  have K47 := Lib.hid (K40.out.trans (hx))
  have K48 := Lib.hid (K41.out.ext (hx))
  have K49 := Lib.hid (K42.out.ext (hx))
  have K50 := Lib.hid (K43.out.ext (hx))
  have K51 := Lib.hid (K44.out.ext (hx))
  have K52 := Lib.hid (K45.out.ext (hx))
  have K53 := Lib.hid (K46.out.ext (hx))
  clear K40 K41 K42 K43 K44 K45 K46
  clear hx
  go_wp2_with fail
  refine (C.eval f a x A ca _ K51.out K48.out hx0 (by omega)).mono ?_
  rintro e v9 ⟨rfl, hx⟩
  have K54 := Lib.hid (K47.out.trans (hx))
  have K55 := Lib.hid (K48.out.ext (hx))
  have K56 := Lib.hid (K49.out.ext (hx))
  have K57 := Lib.hid (K50.out.ext (hx))
  have K58 := Lib.hid (K51.out.ext (hx))
  have K59 := Lib.hid (K52.out.ext (hx))
  have K60 := Lib.hid (K53.out.ext (hx))
  clear K47 K48 K49 K50 K51 K52 K53
  clear hx
  go_wp2_with fail
  refine (C.eval f b x B cb _ K58.out K56.out hx0 (by omega)).mono ?_
  rintro e v10 ⟨rfl, hx⟩
  have K61 := Lib.hid (K54.out.trans (hx))
  have K62 := Lib.hid (K55.out.ext (hx))
  have K63 := Lib.hid (K56.out.ext (hx))
  have K64 := Lib.hid (K57.out.ext (hx))
  have K65 := Lib.hid (K58.out.ext (hx))
  have K66 := Lib.hid (K59.out.ext (hx))
  have K67 := Lib.hid (K60.out.ext (hx))
  clear K54 K55 K56 K57 K58 K59 K60
  clear hx
  go_wp2_with fail
  refine ((mul_any f (Pol.ev a x) (Pol.ev b x) _ K65.out hea heb).mono fun _ _ h => h.tells).mono ?_
  rintro e v11 ⟨rfl, hx⟩
  have K68 := Lib.hid (K61.out.trans (hx))
  have K69 := Lib.hid (K62.out.ext (hx))
  have K70 := Lib.hid (K63.out.ext (hx))
  have K71 := Lib.hid (K64.out.ext (hx))
  have K72 := Lib.hid (K65.out.ext (hx))
  have K73 := Lib.hid (K66.out.ext (hx))
  have K74 := Lib.hid (K67.out.ext (hx))
  clear K61 K62 K63 K64 K65 K66 K67
  clear hx
  go_wp2_with fail
  refine (C.add b d B D cb cd _ K70.out K71.out hcb hcd (by omega) (by omega)).mono ?_
  rintro e v12 ⟨S2, s2, rfl, hc3, hr, hx⟩
  have K75 := Lib.hid (K68.out.trans (hx))
  have K76 := Lib.hid (K69.out.ext (hx))
  have K77 := Lib.hid (K70.out.ext (hx))
  have K78 := Lib.hid (K71.out.ext (hx))
  have K79 := Lib.hid (K72.out.ext (hx))
  have K80 := Lib.hid (K73.out.ext (hx))
  have K81 := Lib.hid (K74.out.ext (hx))
  clear K68 K69 K70 K71 K72 K73 K74
  have K82 := Lib.hid (hr)
  clear hr hx
  go_wp2_with fail
  refine (C.mul f a (trim (Pol.addP b d)) A S2 ca s2 _ K79.out K76.out K82.out hca hc3 (by omega) (by have := LB.out; omega)).mono ?_
  rintro e v13 ⟨P2, p2, rfl, _, hr, hx⟩
  have K83 := Lib.hid (K75.out.trans (hx))
  have K84 := Lib.hid (K76.out.ext (hx))
  have K85 := Lib.hid (K77.out.ext (hx))
  have K86 := Lib.hid (K78.out.ext (hx))
  have K87 := Lib.hid (K79.out.ext (hx))
  have K88 := Lib.hid (K80.out.ext (hx))
  have K89 := Lib.hid (K81.out.ext (hx))
  have K90 := Lib.hid (K82.out.ext (hx))
  clear K75 K76 K77 K78 K79 K80 K81 K82
  rw [E1.out] at hr ⊢
  have K91 := Lib.hid (hr)
  clear hr hx
  go_wp2_with fail
  refine (C.mul f a d A D ca cd _ K87.out K84.out K86.out hca hcd (by omega) (by omega)).mono ?_
  rintro e v14 ⟨P3, p3, rfl, hc4, hr, hx⟩
  have K92 := Lib.hid (K83.out.trans (hx))
  have K93 := Lib.hid (K84.out.ext (hx))
  have K94 := Lib.hid (K85.out.ext (hx))
  have K95 := Lib.hid (K86.out.ext (hx))
  have K96 := Lib.hid (K87.out.ext (hx))
  have K97 := Lib.hid (K88.out.ext (hx))
  have K98 := Lib.hid (K89.out.ext (hx))
  have K99 := Lib.hid (K91.out.ext (hx))
  clear K83 K84 K85 K86 K87 K88 K89 K91
  have K100 := Lib.hid (hr)
  clear hr hx
  go_wp2_with fail
  refine (C.add (trim (Pol.mulP a b)) (trim (Pol.mulP a d)) P1 P3 p1 p3 _ K98.out K100.out hc2 hc4 (by have := LM.out; omega) (by have := LD.out; omega)).mono ?_
  rintro e v15 ⟨S3, s3, rfl, _, hr, hx⟩
  have K101 := Lib.hid (K92.out.trans (hx))
  have K102 := Lib.hid (K93.out.ext (hx))
  have K103 := Lib.hid (K94.out.ext (hx))
  have K104 := Lib.hid (K95.out.ext (hx))
  have K105 := Lib.hid (K96.out.ext (hx))
  have K106 := Lib.hid (K97.out.ext (hx))
  have K107 := Lib.hid (K98.out.ext (hx))
  have K108 := Lib.hid (K99.out.ext (hx))
  have K109 := Lib.hid (K100.out.ext (hx))
  clear K92 K93 K94 K95 K96 K97 K98 K99 K100
  rw [E2.out] at hr ⊢
  have K110 := Lib.hid (hr)
  clear hr hx
  go_wp2_with fail
  refine (same_tells _ P2 S3 p2 s3 _ K108.out K110.out (by have := LG.out; omega)).mono ?_
  rintro e v16 ⟨rfl, hx⟩
  have K111 := Lib.hid (K101.out.trans (hx))
  have K112 := Lib.hid (K102.out.ext (hx))
  have K113 := Lib.hid (K103.out.ext (hx))
  have K114 := Lib.hid (K104.out.ext (hx))
  have K115 := Lib.hid (K105.out.ext (hx))
  have K116 := Lib.hid (K106.out.ext (hx))
  have K117 := Lib.hid (K107.out.ext (hx))
  have K118 := Lib.hid (K108.out.ext (hx))
  have K119 := Lib.hid (K110.out.ext (hx))
  clear K101 K102 K103 K104 K105 K106 K107 K108 K110
  clear hx
  go_wp2_with fail
  refine (C.div f (trim (Pol.mulP a b)) b P1 B p1 cb _ K115.out K117.out K113.out hc2 hcb (by have := LM.out; omega) (by omega) H0.out).mono ?_
  rintro e v17 ⟨vq, vr, q, r, rfl, hvq, hvr, tq, tr, hqr, hlen, _, hx⟩
  have K120 := Lib.hid (K111.out.trans (hx))
  have K121 := Lib.hid (K112.out.ext (hx))
  have K122 := Lib.hid (K113.out.ext (hx))
  have K123 := Lib.hid (K114.out.ext (hx))
  have K124 := Lib.hid (K115.out.ext (hx))
  have K125 := Lib.hid (K116.out.ext (hx))
  have K126 := Lib.hid (K117.out.ext (hx))
  clear K111 K112 K113 K114 K115 K116 K117
  clear hx
  obtain ⟨Bq, cq, rfl, hcq, hrq⟩ := hvq
  obtain ⟨Br, cr, rfl, hcr, hrr⟩ := hvr
  obtain ⟨rfl, rfl⟩ := back a b q r SA.out SB.out hrq.1 H0.out tq tr hqr hlen
  have K127 := Lib.hid (hrq)
  clear hrq hrr tq tr hqr hlen hcq hcr
  have hbI : ¬ (((trim b).length : Nat) : Int) - 1 < 0 := by have := List.length_pos_iff.2 H0.out; omega
  go_wp2_with fail
  refine (C.degree b B cb _ K122.out (by omega)).mono ?_
  rintro e v18 ⟨rfl, hx⟩
  have K128 := Lib.hid (K120.out.trans (hx))
  have K129 := Lib.hid (K121.out.ext (hx))
  have K130 := Lib.hid (K122.out.ext (hx))
  have K131 := Lib.hid (K123.out.ext (hx))
  have K132 := Lib.hid (K124.out.ext (hx))
  have K133 := Lib.hid (K125.out.ext (hx))
  have K134 := Lib.hid (K126.out.ext (hx))
  have K135 := Lib.hid (K127.out.ext (hx))
  clear K120 K121 K122 K123 K124 K125 K126 K127
  clear hx
  go_wp2_with fail
  refine (C.trims a A ca _ K129.out hca (by omega)).mono ?_
  rintro e v19 ⟨T1, t1, rfl, _, hr, hx⟩
  have K136 := Lib.hid (K128.out.trans (hx))
  have K137 := Lib.hid (K129.out.ext (hx))
  have K138 := Lib.hid (K130.out.ext (hx))
  have K139 := Lib.hid (K131.out.ext (hx))
  have K140 := Lib.hid (K132.out.ext (hx))
  have K141 := Lib.hid (K133.out.ext (hx))
  have K142 := Lib.hid (K134.out.ext (hx))
  have K143 := Lib.hid (K135.out.ext (hx))
  clear K128 K129 K130 K131 K132 K133 K134 K135
  have K144 := Lib.hid (hr)
  clear hr hx
  go_wp2_with fail
  refine (same_tells (trim a) Bq T1 cq t1 _ K143.out K144.out (by have := Pol.trim_len a; omega)).mono ?_
  rintro e v20 ⟨rfl, hx⟩
  have K145 := Lib.hid (K136.out.trans (hx))
  have K146 := Lib.hid (K137.out.ext (hx))
  have K147 := Lib.hid (K138.out.ext (hx))
  have K148 := Lib.hid (K139.out.ext (hx))
  have K149 := Lib.hid (K140.out.ext (hx))
  have K150 := Lib.hid (K141.out.ext (hx))
  have K151 := Lib.hid (K142.out.ext (hx))
  have K152 := Lib.hid (K143.out.ext (hx))
  have K153 := Lib.hid (K144.out.ext (hx))
  clear K136 K137 K138 K139 K140 K141 K142 K143 K144
  clear hx
  obtain ⟨da, hda⟩ : ∃ da : Nat, (trim a).length = da + 1 := ⟨(trim a).length - 1, by have := List.length_pos_iff.2 H1.out; omega⟩
  obtain ⟨db, hdb⟩ : ∃ db : Nat, (trim b).length = db + 1 := ⟨(trim b).length - 1, by have := List.length_pos_iff.2 H0.out; omega⟩
  have hdp : (trim (Pol.mulP a b)).length = da + db + 1 := by rw [deg_mul a b H1.out H0.out, hda, hdb]; omega
  have hab : da ≤ 40 := by have := Pol.trim_len a; omega
  have hbb : db ≤ 40 := by have := Pol.trim_len b; omega
  have DA := Lib.hid (show ((trim a).length : Int) - 1 = (da : Int) by omega)
  have DB := Lib.hid (show ((trim b).length : Int) - 1 = (db : Int) by omega)
  have DP := Lib.hid (show ((trim (trim (Pol.mulP a b))).length : Int) - 1 = (da : Int) + (db : Int) by rw [Pol.trim_trim, hdp]; omega)
  have haI : ¬ (da : Int) < 0 := by omega
  clear hda hdb hdp
  go_wp2_with fail
  refine (degree_is C a (da : Int) A ca _ K146.out (by omega) DA.out).mono ?_
  rintro e v21 ⟨rfl, hx⟩
  have K154 := Lib.hid (K145.out.trans (hx))
  have K155 := Lib.hid (K146.out.ext (hx))
  have K156 := Lib.hid (K147.out.ext (hx))
  have K157 := Lib.hid (K148.out.ext (hx))
  have K158 := Lib.hid (K149.out.ext (hx))
  have K159 := Lib.hid (K150.out.ext (hx))
  have K160 := Lib.hid (K151.out.ext (hx))
  clear K145 K146 K147 K148 K149 K150 K151
  clear hx
  go_wp2_with fail
  refine (degree_is C (trim (Pol.mulP a b)) ((da : Int) + (db : Int)) P1 p1 _ K160.out (by have := LM.out; omega) DP.out).mono ?_
  rintro e v22 ⟨rfl, hx⟩
  have K161 := Lib.hid (K154.out.trans (hx))
  have K162 := Lib.hid (K155.out.ext (hx))
  have K163 := Lib.hid (K156.out.ext (hx))
  have K164 := Lib.hid (K157.out.ext (hx))
  have K165 := Lib.hid (K158.out.ext (hx))
  have K166 := Lib.hid (K159.out.ext (hx))
  have K167 := Lib.hid (K160.out.ext (hx))
  clear K154 K155 K156 K157 K158 K159 K160
  clear hx
  go_wp2_with fail
  refine (degree_is C a (da : Int) A ca _ K162.out (by omega) DA.out).mono ?_
  rintro e v23 ⟨rfl, hx⟩
  have K168 := Lib.hid (K161.out.trans (hx))
  have K169 := Lib.hid (K162.out.ext (hx))
  have K170 := Lib.hid (K163.out.ext (hx))
  have K171 := Lib.hid (K164.out.ext (hx))
  have K172 := Lib.hid (K165.out.ext (hx))
  have K173 := Lib.hid (K166.out.ext (hx))
  have K174 := Lib.hid (K167.out.ext (hx))
  clear K161 K162 K163 K164 K165 K166 K167
  clear hx
  go_wp2_with fail
  refine (degree_is C b (db : Int) B cb _ K170.out (by omega) DB.out).mono ?_
  rintro e v24 ⟨rfl, hx⟩
  have K175 := Lib.hid (K168.out.trans (hx))
  have K176 := Lib.hid (K169.out.ext (hx))
  have K177 := Lib.hid (K170.out.ext (hx))
  have K178 := Lib.hid (K171.out.ext (hx))
  have K179 := Lib.hid (K172.out.ext (hx))
  have K180 := Lib.hid (K173.out.ext (hx))
  have K181 := Lib.hid (K174.out.ext (hx))
  clear K168 K169 K170 K171 K172 K173 K174
  clear hx
  go_wp2_with fail
  go_ret
  exact ⟨rfl, K175.out⟩

theorem ring2_walk (C : PolySaid) (a b d : List Nat) (x : Nat) (A B D : Option Addr) (ca cb cd : Nat) (w : World) (ha : Rd w A a) (hb : Rd w B b) (hd : Rd w D d) (hca : a.length ≤ ca) (hcb : b.length ≤ cb) (hcd : d.length ≤ cd) (hx0 : x < 256) : Calls Try.prog 8 #[.slice A a.length ca, .slice B b.length cb, .slice D d.length cd, .int .u8 (x : Int)] w (Holds w) := by
  by_cases h1 : 40 < a.length
  · exact ring2_big_a C A B D _ _ _ ca cb cd x h1 w
  by_cases h2 : 40 < b.length
  · exact ring2_big_b C A B D _ _ _ ca cb cd x (by omega) h2 w
  by_cases h3 : 40 < d.length
  · exact ring2_big_c C A B D _ _ _ ca cb cd x (by omega) (by omega) h3 w
  by_cases h0 : trim b = []
  · exact ring2_zero C a b d x A B D ca cb cd w ha hb hd hca hcb hcd hx0 (by omega) (by omega) (by omega) h0
  by_cases h4 : trim a = []
  · exact ring2_half C a b d x A B D ca cb cd w ha hb hd hca hcb hcd hx0 (by omega) (by omega) (by omega) h0 h4
  · exact ring2_of C a b d x A B D ca cb cd w ha hb hd hca hcb hcd hx0 (by omega) (by omega) (by omega) h0 h4
end Go.Proofs.Ytagdialceelggaa

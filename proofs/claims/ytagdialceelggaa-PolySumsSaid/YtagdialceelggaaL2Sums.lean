/-
  The walk of the statement PolySums: through points whose values are sums goes the sum of the polynomials, and with values times an element that one times it, if layer 2's own functions do what they are to do. Conditions: just that.
-/
import Derived.Test.YtagdialceelggaaL2Ring
import Derived.Test.YtagdialceelggaaPtsAppend
import Derived.Test.YtagdialceelggaaQTail
import Derived.Test.YtagdialceelggaaRTwice
import Derived.Deep.RegionLaw
import Derived.Deep.DeepCutAuto
namespace Go.Proofs.Ytagdialceelggaa
open Go.RowKit
open Pol (co Sm px py Apart thr trim)

set_option maxHeartbeats 400000 in
set_option maxRecDepth 100000 in
theorem sums2_big (C : PolySaid) (A B : Option Addr) (na nb ca cb : Nat) (x : Int) (h : 20 < na) (w : World) : Calls Try.prog 9 #[.slice A na ca, .slice B nb cb, .int .u8 x] w (Holds w) := by
  have hI : (20 : Int) < (na : Int) := by omega
  go_enter Try.func9, Try.ntmps9
  go_wp2_with fail
  refine (awake2 C _).mono ?_
  rintro e v0 ⟨rfl, hx⟩
  have K1 := Lib.hid (hx)
  clear hx
  go_wp2_with fail
  refine (awake2 C _).mono ?_
  rintro e v1 ⟨rfl, hx⟩
  have K2 := Lib.hid (K1.out.trans (hx))
  clear K1
  clear hx
  go_wp2_with fail
  go_ret
  exact ⟨rfl, K2.out⟩

set_option maxHeartbeats 1000000 in
set_option maxRecDepth 100000 in
theorem sums2_twice (C : PolySaid) (l : List (Nat × Nat)) (nb : Nat) (x : Int) (A B : Option Addr) (ca cb : Nat) (w : World) (ha : PRd w A l) (hl : l.length ≤ 20) (h0 : ¬ Apart l l.length) :
    Calls Try.prog 9 #[.slice A l.length ca, .slice B nb cb, .int .u8 x] w (Holds w) := by
  have hI : ¬ (20 : Int) < (l.length : Int) := by omega
  have H0 := Lib.hid h0
  clear h0
  have X0 := Lib.hid (Ext.refl w)
  have K1 := Lib.hid (ha)
  clear ha
  go_enter Try.func9, Try.ntmps9
  go_wp2_with fail
  refine (awake2 C _).mono ?_
  rintro e v1 ⟨rfl, hx⟩
  have K2 := Lib.hid (X0.out.trans (hx))
  have K3 := Lib.hid (K1.out.ext (hx))
  clear X0 K1
  clear hx
  go_wp2_with fail
  refine ((ref_twice_yes l A ca _ K3.out (by omega) H0.out).mono fun _ _ h => h.tells).mono ?_
  rintro e v2 ⟨rfl, hx⟩
  have K4 := Lib.hid (K2.out.trans (hx))
  have K5 := Lib.hid (K3.out.ext (hx))
  clear K2 K3
  clear hx
  go_wp2_with fail
  refine (awake2 C _).mono ?_
  rintro e v3 ⟨rfl, hx⟩
  have K6 := Lib.hid (K4.out.trans (hx))
  have K7 := Lib.hid (K5.out.ext (hx))
  clear K4 K5
  clear hx
  go_wp2_with fail
  go_ret
  exact ⟨rfl, K6.out⟩

set_option maxHeartbeats 1000000 in
set_option maxRecDepth 100000 in
theorem sums2_short (C : PolySaid) (l : List (Nat × Nat)) (nb : Nat) (x : Int) (A B : Option Addr) (ca cb : Nat) (w : World) (ha : PRd w A l) (hl : l.length ≤ 20) (h0 : Apart l l.length) (h1 : nb < l.length) :
    Calls Try.prog 9 #[.slice A l.length ca, .slice B nb cb, .int .u8 x] w (Holds w) := by
  have hI : ¬ (20 : Int) < (l.length : Int) := by omega
  have hJ : (nb : Int) < (l.length : Int) := by omega
  have H0 := Lib.hid h0
  clear h0
  have X0 := Lib.hid (Ext.refl w)
  have K1 := Lib.hid (ha)
  clear ha
  go_enter Try.func9, Try.ntmps9
  go_wp2_with fail
  refine (awake2 C _).mono ?_
  rintro e v1 ⟨rfl, hx⟩
  have K2 := Lib.hid (X0.out.trans (hx))
  have K3 := Lib.hid (K1.out.ext (hx))
  clear X0 K1
  clear hx
  go_wp2_with fail
  refine ((ref_twice_no l A ca _ K3.out (by omega) H0.out).mono fun _ _ h => h.tells).mono ?_
  rintro e v2 ⟨rfl, hx⟩
  have K4 := Lib.hid (K2.out.trans (hx))
  have K5 := Lib.hid (K3.out.ext (hx))
  clear K2 K3
  clear hx
  go_wp2_with fail
  refine (awake2 C _).mono ?_
  rintro e v3 ⟨rfl, hx⟩
  have K6 := Lib.hid (K4.out.trans (hx))
  have K7 := Lib.hid (K5.out.ext (hx))
  clear K4 K5
  clear hx
  go_wp2_with fail
  go_ret
  exact ⟨rfl, K6.out⟩

/-- The same places, other values. -/
def other (l : List (Nat × Nat)) (v : Nat → Nat) (k : Nat) : List (Nat × Nat) := (List.range k).map fun i => (px l i, v i)
theorem other_len (l : List (Nat × Nat)) (v : Nat → Nat) (k : Nat) : (other l v k).length = k := by simp [other]
theorem other_succ (l : List (Nat × Nat)) (v : Nat → Nat) (k : Nat) : other l v (k + 1) = other l v k ++ [(px l k, v k)] := by simp [other, List.range_succ]
theorem other_at (l : List (Nat × Nat)) (v : Nat → Nat) (k i : Nat) (h : i < k) : px (other l v k) i = px l i ∧ py (other l v k) i = v i := by
  have e : (other l v k)[i]? = some (px l i, v i) := by
    unfold other
    rw [List.getElem?_map, List.getElem?_range h]; rfl
  unfold py
  rw [show px (other l v k) i = ((other l v k)[i]?.getD (0, 0)).1 from rfl, e]
  exact ⟨rfl, rfl⟩
theorem other_sm (l : List (Nat × Nat)) (hl : Pol.PSm l) (v : Nat → Nat) (hv : ∀ i, v i < 256) (k : Nat) : Pol.PSm (other l v k) := fun i => by
  by_cases h : i < k
  · rw [(other_at l v k i h).1, (other_at l v k i h).2]
    exact ⟨(hl i).1, hv i⟩
  · unfold px py
    rw [List.getElem?_eq_none (by rw [other_len]; omega)]
    exact ⟨by simp, by simp⟩
theorem other_apart (l : List (Nat × Nat)) (v : Nat → Nat) (k : Nat) (h : Apart l k) : Apart (other l v k) k := fun i j h1 h2 => by
  rw [(other_at l v k i h2).1, (other_at l v k j (by omega)).1]
  exact h i j h1 h2
theorem other_thr (l : List (Nat × Nat)) (hl : Pol.PSm l) (v : Nat → Nat) (hv : ∀ i, v i < 256) (h : Apart l l.length) (p : List Nat) (hp : Sm p) (hlen : ∀ i, l.length ≤ i → co p i = 0) (hev : ∀ j, j < l.length → Pol.ev p (px l j) = v j) :
    thr (other l v l.length) l.length = trim p := by
  have := Pol.thr_one (other l v l.length) (other_sm l hl v hv _) (by rw [other_len]; exact other_apart l v _ h) p hp (by rw [other_len]; exact hlen) (fun j hj => by
    rw [other_len] at hj
    rw [(other_at l v _ j hj).1, (other_at l v _ j hj).2]; exact hev j hj)
  rw [other_len] at this
  exact this.symm

set_option maxHeartbeats 1000000 in
set_option maxRecDepth 100000 in
theorem sums2_of (C : PolySaid) (l : List (Nat × Nat)) (b : List Nat) (x : Nat) (A B : Option Addr) (ca cb : Nat) (w : World) (ha : PRd w A l) (hb : Rd w B b) (hca : l.length ≤ ca) (hx0 : x < 256) (hl : l.length ≤ 20) (hcb : l.length ≤ b.length) (h0 : Apart l l.length) : Calls Try.prog 9 #[.slice A l.length ca, .slice B b.length cb, .int .u8 (x : Int)] w (Holds w) := by
  have hI : ¬ (20 : Int) < (l.length : Int) := by omega
  have hI' : decide ((20 : Int) < (l.length : Int)) = false := by simpa using hI
  have hJ : ¬ (b.length : Int) < (l.length : Int) := by omega
  have hJ' : decide ((b.length : Int) < (l.length : Int)) = false := by simpa using hJ
  have hsl := ha.1
  have hsb := hb.1
  have HSL := Lib.hid hsl
  have HSB := Lib.hid hsb
  have H0 := Lib.hid h0
  clear hsl hsb h0
  have X0 := Lib.hid (Ext.refl w)
  have K1 := Lib.hid (ha)
  have K2 := Lib.hid (hb)
  clear ha hb
  go_enter Try.func9, Try.ntmps9
  go_wp2_with fail
  refine (awake2 C _).mono ?_
  rintro e v1 ⟨rfl, hx⟩
  have K3 := Lib.hid (X0.out.trans (hx))
  have K4 := Lib.hid (K1.out.ext (hx))
  have K5 := Lib.hid (K2.out.ext (hx))
  clear X0 K1 K2
  clear hx
  go_wp2_with fail
  refine ((ref_twice_no l A ca _ K4.out (by omega) H0.out).mono fun _ _ h => h.tells).mono ?_
  rintro e v2 ⟨rfl, hx⟩
  have K6 := Lib.hid (K3.out.trans (hx))
  have K7 := Lib.hid (K4.out.ext (hx))
  have K8 := Lib.hid (K5.out.ext (hx))
  clear K3 K4 K5
  clear hx
  go_wp2_with fail
  refine (new_any _).mono ?_
  rintro e v3 ⟨f, rfl, hf, _, hx⟩
  have K9 := Lib.hid (K6.out.trans (hx))
  have K10 := Lib.hid (K7.out.ext (hx))
  have K11 := Lib.hid (K8.out.ext (hx))
  clear K6 K7 K8
  have K12 := Lib.hid (hf)
  clear hf hx
  go_wp2_with fail
  go_loopg [8, 9, 10, 42] l.length (fun g s8 s9 s10 s42 wx => ∃ k : Nat, k + g = l.length ∧ s42 = .int .i64 (k : Int) ∧ PMine wx v3.heap.size s8 (other l (co b) k) ∧ PMine wx v3.heap.size s9 (other l (fun i => py l i ^^^ co b i) k) ∧ PMine wx v3.heap.size s10 (other l (fun i => Gf.mul x (py l i)) k) ∧ Sep s8 s9 ∧ Sep s8 s10 ∧ Sep s9 s10 ∧ Ext v3 wx)
  case atStart => exact ⟨0, by omega, rfl, PMine.nil _ _, PMine.nil _ _, PMine.nil _ _, Sep.nil _, Sep.nil _, Sep.nil _, Ext.refl _⟩
  case round =>
    obtain ⟨k, hkg, rfl, hm8, hm9, hm10, h89, h80, h90, hx⟩ := hrel
    have M8 := Lib.hid hm8
    have M9 := Lib.hid hm9
    have M10 := Lib.hid hm10
    have S89 := Lib.hid h89
    have S80 := Lib.hid h80
    have S90 := Lib.hid h90
    have HX := Lib.hid hx
    clear hm8 hm9 hm10 h89 h80 h90 hx
    cases gk with
    | zero =>
      obtain rfl : l.length = k := by omega
      clear hkg S89 S80 S90
      have hs8 := other_sm l HSL.out (co b) HSB.out l.length
      have hs9 := other_sm l HSL.out (fun i => py l i ^^^ co b i) (fun i => Gf.xor_lt _ _ (HSL.out i).2 (HSB.out i)) l.length
      have hs10 := other_sm l HSL.out (fun i => Gf.mul x (py l i)) (fun i => Gf.mul_lt _ _) l.length
      obtain ⟨B8, c8, e8, hc8, hr8⟩ := M8.out.slice hs8
      obtain ⟨B9, c9, e9, hc9, hr9⟩ := M9.out.slice hs9
      obtain ⟨B10, c10, e10, hc10, hr10⟩ := M10.out.slice hs10
      rw [other_len] at e8 e9 e10 hc8 hc9 hc10
      subst e8
      subst e9
      subst e10
      have hthP := Pol.thr_sm l HSL.out l.length
      have hthm : thr (other l (co b) l.length) l.length = trim (thr (other l (co b) l.length) l.length) := (Pol.thr_trim _ _).symm
      obtain ⟨P, hP⟩ : ∃ P, thr l l.length = P := ⟨_, rfl⟩
      obtain ⟨Q, hQ⟩ : ∃ Q, thr (other l (co b) l.length) l.length = Q := ⟨_, rfl⟩
      have hsP : Sm P := by rw [← hP]; exact hthP
      have hsQ : Sm Q := by rw [← hQ]; exact Pol.thr_sm _ hs8 _
      have hlP : ∀ i, l.length ≤ i → co P i = 0 := by rw [← hP]; exact Pol.thr_len l _ (Nat.le_refl _)
      have hlQ : ∀ i, l.length ≤ i → co Q i = 0 := by
        have := Pol.thr_len (other l (co b) l.length) _ (Nat.le_refl _)
        rw [other_len, hQ] at this
        exact this
      have heP : ∀ j, j < l.length → Pol.ev P (px l j) = py l j := by rw [← hP]; exact Pol.thr_meets l HSL.out H0.out
      have heQ : ∀ j, j < l.length → Pol.ev Q (px l j) = co b j := fun j hj => by
        have := Pol.thr_meets (other l (co b) l.length) hs8 (by rw [other_len]; exact other_apart l _ _ H0.out) j (by rw [other_len]; exact hj)
        rw [other_len, hQ, (other_at l (co b) _ j hj).1, (other_at l (co b) _ j hj).2] at this
        exact this
      have hPlen : P.length ≤ 20 := by
        have h1 := Pol.trim_le P l.length hlP
        rw [← hP, Pol.thr_trim, hP] at h1
        omega
      have hQlen : Q.length ≤ 20 := by
        have h1 := Pol.trim_le Q l.length hlQ
        rw [← hQ, Pol.thr_trim, hQ] at h1
        omega
      have hsum : thr (other l (fun i => py l i ^^^ co b i) l.length) l.length = trim (Pol.addP P Q) :=
        other_thr l HSL.out _ (fun i => Gf.xor_lt _ _ (HSL.out i).2 (HSB.out i)) H0.out (Pol.addP P Q) (hsP.add hsQ) (fun i hi => by rw [Pol.co_addP, hlP i hi, hlQ i hi]; rfl)
          (fun j hj => by rw [Pol.ev_addP P Q _ hsP hsQ (HSL.out j).1, heP j hj, heQ j hj])
      have hsx : Sm [x] := Sm.cons hx0 Sm.nil
      have hprod : thr (other l (fun i => Gf.mul x (py l i)) l.length) l.length = trim (Pol.mulP P [x]) :=
        other_thr l HSL.out _ (fun i => Gf.mul_lt _ _) H0.out (Pol.mulP P [x]) (Sm.mul _ _) (fun i hi => by
            rw [Pol.co_mulP]
            apply Pol.xs_zero
            intro t ht
            by_cases hti : t ≤ i
            · rw [if_pos hti]
              by_cases htt : t = i
              · subst htt; rw [hlP t hi, Gf.zero_mul]
              · rw [Pol.co_out [x] (i - t) (by simp; omega), Gf.mul_zero]
            · rw [if_neg hti])
          (fun j hj => by
            rw [Pol.ev_mulP P [x] _ hsP hsx (HSL.out j).1, heP j hj]
            show Gf.mul (py l j) (x ^^^ Gf.mul _ 0) = _
            rw [Gf.mul_zero, Nat.xor_zero, Gf.mul_comm])
      have h1 := fun W (hf : IsField W f) (hr : PRd W A l) => C.through f l A ca W hf hr hca (by omega) H0.out
      have h2 := fun W (hf : IsField W f) (hr : PRd W B8 (other l (co b) l.length)) => C.through f (other l (co b) l.length) B8 c8 W hf hr (by rw [other_len]; exact hc8) (by rw [other_len]; omega) (by rw [other_len]; exact other_apart l _ _ H0.out)
      have h3 := fun W (hf : IsField W f) (hr : PRd W B9 (other l (fun i => py l i ^^^ co b i) l.length)) => C.through f (other l (fun i => py l i ^^^ co b i) l.length) B9 c9 W hf hr (by rw [other_len]; exact hc9) (by rw [other_len]; omega) (by rw [other_len]; exact other_apart l _ _ H0.out)
      have h4 := fun W (hf : IsField W f) (hr : PRd W B10 (other l (fun i => Gf.mul x (py l i)) l.length)) => C.through f (other l (fun i => Gf.mul x (py l i)) l.length) B10 c10 W hf hr (by rw [other_len]; exact hc10) (by rw [other_len]; omega) (by rw [other_len]; exact other_apart l _ _ H0.out)
      rw [hP] at h1
      simp only [other_len, hQ] at h2
      simp only [other_len, hsum] at h3
      simp only [other_len, hprod] at h4
      have LS := Lib.hid (show (trim (Pol.addP P Q)).length ≤ 1048576 by have := len_addP P Q (by omega) (by omega); omega)
      have LP := Lib.hid (show (trim (Pol.mulP P [x])).length ≤ 1048576 by have := len_mulP P [x] (by omega) (by simp); omega)
      have G1 := Lib.hid h1
      have G2 := Lib.hid h2
      have G3 := Lib.hid h3
      have G4 := Lib.hid h4
      have Y8 := Lib.hid hr8
      have Y9 := Lib.hid hr9
      have Y10 := Lib.hid hr10
      have HSX := Lib.hid hsx
      clear h1 h2 h3 h4 hr8 hr9 hr10 hs8 hs9 hs10 hthP hthm hP hQ hsP hsQ hlP hlQ heP heQ hsum hprod hsx M8 M9 M10
      have F0 := Lib.hid (K12.out.ext HX.out)
      have A0 := Lib.hid (K10.out.ext HX.out)
      go_wp2_with fail
      refine (G1.out _ F0.out A0.out).mono ?_
      rintro e v1 ⟨v, rfl, ⟨B1, d1, rfl, hd1, hr⟩, hx⟩
      have K101 := Lib.hid (HX.out.trans (hx))
      have K102 := Lib.hid (F0.out.ext (hx))
      have K103 := Lib.hid (A0.out.ext (hx))
      have K104 := Lib.hid (Y8.out.ext (hx))
      have K105 := Lib.hid (Y9.out.ext (hx))
      have K106 := Lib.hid (Y10.out.ext (hx))
      clear HX F0 A0 Y8 Y9 Y10
      have K107 := Lib.hid (hr)
      clear hr hx
      go_wp2_with fail
      refine (G2.out _ K102.out K104.out).mono ?_
      rintro e v2 ⟨v, rfl, ⟨B2, d2, rfl, hd2, hr⟩, hx⟩
      have K108 := Lib.hid (K101.out.trans (hx))
      have K109 := Lib.hid (K102.out.ext (hx))
      have K110 := Lib.hid (K103.out.ext (hx))
      have K111 := Lib.hid (K104.out.ext (hx))
      have K112 := Lib.hid (K105.out.ext (hx))
      have K113 := Lib.hid (K106.out.ext (hx))
      have K114 := Lib.hid (K107.out.ext (hx))
      clear K101 K102 K103 K104 K105 K106 K107
      have K115 := Lib.hid (hr)
      clear hr hx
      go_wp2_with fail
      refine (G3.out _ K109.out K112.out).mono ?_
      rintro e v3 ⟨v, rfl, ⟨B3, d3, rfl, hd3, hr⟩, hx⟩
      have K116 := Lib.hid (K108.out.trans (hx))
      have K117 := Lib.hid (K109.out.ext (hx))
      have K118 := Lib.hid (K110.out.ext (hx))
      have K119 := Lib.hid (K111.out.ext (hx))
      have K120 := Lib.hid (K112.out.ext (hx))
      have K121 := Lib.hid (K113.out.ext (hx))
      have K122 := Lib.hid (K114.out.ext (hx))
      have K123 := Lib.hid (K115.out.ext (hx))
      clear K108 K109 K110 K111 K112 K113 K114 K115
      have K124 := Lib.hid (hr)
      clear hr hx
      go_wp2_with fail
      refine (G4.out _ K117.out K121.out).mono ?_
      rintro e v4 ⟨v, rfl, ⟨B4, d4, rfl, hd4, hr⟩, hx⟩
      have K125 := Lib.hid (K116.out.trans (hx))
      have K126 := Lib.hid (K117.out.ext (hx))
      have K127 := Lib.hid (K118.out.ext (hx))
      have K128 := Lib.hid (K119.out.ext (hx))
      have K129 := Lib.hid (K120.out.ext (hx))
      have K130 := Lib.hid (K121.out.ext (hx))
      have K131 := Lib.hid (K122.out.ext (hx))
      have K132 := Lib.hid (K123.out.ext (hx))
      have K133 := Lib.hid (K124.out.ext (hx))
      clear K116 K117 K118 K119 K120 K121 K122 K123 K124
      have K134 := Lib.hid (hr)
      clear hr hx
      go_wp2_with fail
      refine (C.add P Q B1 B2 d1 d2 _ K131.out K132.out hd1 hd2 (by omega) (by omega)).mono ?_
      rintro e v5 ⟨B5, d5, rfl, _, hr, hx⟩
      have K135 := Lib.hid (K125.out.trans (hx))
      have K136 := Lib.hid (K126.out.ext (hx))
      have K137 := Lib.hid (K131.out.ext (hx))
      have K138 := Lib.hid (K132.out.ext (hx))
      have K139 := Lib.hid (K133.out.ext (hx))
      have K140 := Lib.hid (K134.out.ext (hx))
      clear K125 K126 K131 K132 K133 K134
      have K141 := Lib.hid (hr)
      clear hr hx
      go_wp2_with fail
      refine (same_tells _ B3 B5 d3 d5 _ K139.out K141.out LS.out).mono ?_
      rintro e v6 ⟨rfl, hx⟩
      have K142 := Lib.hid (K135.out.trans (hx))
      have K143 := Lib.hid (K136.out.ext (hx))
      have K144 := Lib.hid (K137.out.ext (hx))
      have K145 := Lib.hid (K138.out.ext (hx))
      have K146 := Lib.hid (K139.out.ext (hx))
      have K147 := Lib.hid (K140.out.ext (hx))
      have K148 := Lib.hid (K141.out.ext (hx))
      clear K135 K136 K137 K138 K139 K140 K141
      clear hx
      go_wp2_with fail
      refine (C.mul f P [x] B1 (some ⟨v6.heap.size, 0, none⟩) d1 1 _ (K143.out.ext ((Ext.refl _).alloc _)) (K144.out.ext ((Ext.refl _).alloc _)) (rd_one v6 x hx0) hd1 (Nat.le_refl _) (by omega) (by simp)).mono ?_
      rintro e v7 ⟨B6, d6, rfl, _, hr, hx⟩
      have K149 := Lib.hid (K142.out.trans ((((Ext.refl _).alloc _)).trans hx))
      have K150 := Lib.hid (K143.out.ext ((((Ext.refl _).alloc _)).trans hx))
      have K151 := Lib.hid (K144.out.ext ((((Ext.refl _).alloc _)).trans hx))
      have K152 := Lib.hid (K147.out.ext ((((Ext.refl _).alloc _)).trans hx))
      clear K142 K143 K144 K147
      have K153 := Lib.hid (hr)
      clear hr hx
      go_wp2_with fail
      refine (same_tells _ B4 B6 d4 d6 _ K152.out K153.out LP.out).mono ?_
      rintro e v8 ⟨rfl, hx⟩
      have K154 := Lib.hid (K149.out.trans (hx))
      have K155 := Lib.hid (K150.out.ext (hx))
      have K156 := Lib.hid (K151.out.ext (hx))
      have K157 := Lib.hid (K152.out.ext (hx))
      have K158 := Lib.hid (K153.out.ext (hx))
      clear K149 K150 K151 K152 K153
      clear hx
      go_wp2_with fail
      go_ret
      exact ⟨rfl, K9.out.trans K154.out⟩
    | succ g =>
      have hk : k < l.length := by omega
      have hkI : (k : Int) < (l.length : Int) := by omega
      have hkB : (k : Int) < (b.length : Int) := by omega
      obtain ⟨b1, o1, e1, hc1, hc2⟩ := (K10.out.ext HX.out).2 k hk
      subst e1
      obtain ⟨b2, o2, e2, hc3⟩ := (K11.out.ext HX.out).2 k (by omega)
      subst e2
      have hpx := (HSL.out k).1
      have hpy := (HSL.out k).2
      have hcb' := HSB.out k
      have hps : Pol.PSm [(px l k, co b k)] := fun i => by
        match i with
        | 0 => exact ⟨hpx, hcb'⟩
        | n + 1 => simp [px, py]
      have HPS := Lib.hid hps
      clear hps
      have hs8 := other_succ l (co b) k
      have HS8 := Lib.hid hs8
      clear hs8
      go_upto_region 8 with (fail)
      go_cut [8] (fun s8 wx => PMine wx v3.heap.size s8 (other l (co b) (k + 1)) ∧ PMine wx v3.heap.size u9 (other l (fun i => py l i ^^^ co b i) k) ∧ PMine wx v3.heap.size u10 (other l (fun i => Gf.mul x (py l i)) k) ∧ Sep s8 u9 ∧ Sep s8 u10 ∧ Ext v3 wx)
      case first =>
        go_region_law (refine step_append_prd rfl (.tmp 45) (.tmp 56) rfl v3.heap.size u8 (other l (co b) k) [(px l k, co b k)] rfl ((M8.out.kept ((Ext.refl _).drew)).kept ((Ext.refl _).alloc _)) (some ⟨wr.heap.size, 0, none⟩) 1 1 rfl rfl (prd_lit wr.drew _ HPS.out) (by rw [other_len]; simp; omega) (by simp; have := HX.out.size; omega) ?_; intro v8 w1 hown8 hg8 hat8)
        all_goals
          have hW0 : Ext wr ((wr.alloc (Obj.cells #[Value.int IntKind.u8 ((px l k : Nat) : Int), Value.int IntKind.u8 ((co b k : Nat) : Int)] 46)).drew) := ((Ext.refl _).alloc _).drew
          have R := Lib.hid (show PMine w1 v3.heap.size v8 (other l (co b) (k + 1)) ∧ PMine w1 v3.heap.size u9 (other l (fun i => py l i ^^^ co b i) k) ∧ PMine w1 v3.heap.size u10 (other l (fun i => Gf.mul x (py l i)) k) ∧ Sep v8 u9 ∧ Sep v8 u10 ∧ Ext v3 w1 from
            ⟨by rw [HS8.out]; exact hown8, (M9.out.kept hW0).other hg8 S89.out, (M10.out.kept hW0).other hg8 S80.out, S89.out.step hat8 (M9.out.kept hW0), S80.out.step hat8 (M10.out.kept hW0), (HX.out.trans hW0).more hg8 M8.out.block⟩)
          clear hown8 hg8 hat8 hW0
          go_wp2_with fail
          go_meet
          exact R.out
      case rest =>
        obtain ⟨hm8, hm9, hm10, h89, h80, hx⟩ := hcut
        have N8 := Lib.hid hm8
        have N9 := Lib.hid hm9
        have N10 := Lib.hid hm10
        have R89 := Lib.hid h89
        have R80 := Lib.hid h80
        have X1 := Lib.hid hx
        clear hm8 hm9 hm10 h89 h80 hx M8 M9 M10 S89 S80 HX hc1 hc2 hc3 HPS HS8
        obtain ⟨b3, o3, e3, hc1, hc2⟩ := (K10.out.ext X1.out).2 k hk
        injection e3 with e3
        injection e3 with e4 e5
        subst e4
        subst e5
        obtain ⟨b3, o3, e3, hc3⟩ := (K11.out.ext X1.out).2 k (by omega)
        injection e3 with e3
        injection e3 with e4 e5
        subst e4
        subst e5
        have hps : Pol.PSm [(px l k, py l k ^^^ co b k)] := fun i => by
          match i with
          | 0 => exact ⟨hpx, Gf.xor_lt _ _ hpy hcb'⟩
          | n + 1 => simp [px, py]
        have HPS := Lib.hid hps
        have hs9 := other_succ l (fun i => py l i ^^^ co b i) k
        have HS9 := Lib.hid hs9
        clear hps hs9
        go_upto_region 9 with (fail)
        go_cut [9] (fun s9 wx => PMine wx v3.heap.size s9 (other l (fun i => py l i ^^^ co b i) (k + 1)) ∧ PMine wx v3.heap.size u8 (other l (co b) (k + 1)) ∧ PMine wx v3.heap.size u10 (other l (fun i => Gf.mul x (py l i)) k) ∧ Sep u8 s9 ∧ Sep s9 u10 ∧ Ext v3 wx)
        case first =>
          go_region_law (first | (refine step_append_prd rfl (.tmp 58) (.tmp 75) rfl v3.heap.size u9 (other l (fun i => py l i ^^^ co b i) k) [(px l k, py l k ^^^ co b k)] rfl ((N9.out.kept ((Ext.refl _).drew)).kept ((Ext.refl _).alloc _)) (some ⟨wc.heap.size, 0, none⟩) 1 1 rfl rfl (prd_lit wc.drew _ HPS.out) (by rw [other_len]; simp; omega) (by simp; have := X1.out.size; omega) ?_; intro v9 w1 hown9 hg9 hat9) | (go_simp; go_at_call 27; refine (add_is (py l k) (co b k) _ hpy hcb' rfl _).mono ?_; rintro e w' ⟨rfl, rfl⟩))
          all_goals
            have hW0 : Ext wc ((wc.alloc (Obj.cells #[Value.int IntKind.u8 ((px l k : Nat) : Int), Value.int IntKind.u8 ((py l k ^^^ co b k : Nat) : Int)] 46)).drew) := ((Ext.refl _).alloc _).drew
            have R := Lib.hid (show PMine w1 v3.heap.size v9 (other l (fun i => py l i ^^^ co b i) (k + 1)) ∧ PMine w1 v3.heap.size u8 (other l (co b) (k + 1)) ∧ PMine w1 v3.heap.size u10 (other l (fun i => Gf.mul x (py l i)) k) ∧ Sep u8 v9 ∧ Sep v9 u10 ∧ Ext v3 w1 from
              ⟨by rw [HS9.out]; exact hown9, (N8.out.kept hW0).other hg9 R89.out.symm, (N10.out.kept hW0).other hg9 S90.out, (R89.out.symm.step hat9 (N8.out.kept hW0)).symm, S90.out.step hat9 (N10.out.kept hW0), (X1.out.trans hW0).more hg9 N9.out.block⟩)
            clear hown9 hg9 hat9 hW0
            go_wp2_with fail
            go_meet
            exact R.out
        case rest =>
          rename_i wd
          obtain ⟨hm9, hm8, hm10, h89, h90, hx⟩ := hcut
          have O8 := Lib.hid hm8
          have O9 := Lib.hid hm9
          have O10 := Lib.hid hm10
          have T89 := Lib.hid h89
          have T90 := Lib.hid h90
          have X2 := Lib.hid hx
          clear hm8 hm9 hm10 h89 h90 hx N8 N9 N10 R89 S90 X1 hc1 hc2 hc3 HPS HS9
          obtain ⟨b3, o3, e3, hc1, hc2⟩ := (K10.out.ext X2.out).2 k hk
          injection e3 with e3
          injection e3 with e4 e5
          subst e4
          subst e5
          have hps : Pol.PSm [(px l k, Gf.mul x (py l k))] := fun i => by
            match i with
            | 0 => exact ⟨hpx, Gf.mul_lt _ _⟩
            | n + 1 => simp [px, py]
          have HPS := Lib.hid hps
          have hs10 := other_succ l (fun i => Gf.mul x (py l i)) k
          have HS10 := Lib.hid hs10
          have HFF := Lib.hid (K12.out.ext X2.out)
          clear hps hs10
          go_upto_region 10 with (fail)
          go_region_law (first | (refine step_append_prd rfl (.tmp 77) (.tmp 92) rfl v3.heap.size u10 (other l (fun i => Gf.mul x (py l i)) k) [(px l k, Gf.mul x (py l k))] rfl ((O10.out.kept ((Ext.refl _).drewN _)).kept ((Ext.refl _).alloc _)) (some ⟨wc.heap.size, 0, none⟩) 1 1 rfl rfl (prd_lit (wc.drewN _) _ HPS.out) (by rw [other_len]; simp; omega) (by simp; have := X2.out.size; omega) ?_; intro v10 w1 hown10 hg10 hat10) | (go_simp; go_at_call 28; refine (mul_any f x (py l k) _ (HFF.out.drewN _) hx0 hpy).mono ?_; rintro e w' ⟨rfl, m, rfl⟩))
          all_goals
            have hW0 : Ext wc ((wc.drewN (1 + m)).alloc (Obj.cells #[Value.int IntKind.u8 ((px l k : Nat) : Int), Value.int IntKind.u8 ((Gf.mul x (py l k) : Nat) : Int)] 46)) := ((Ext.refl _).drewN _).alloc _
            have Q8 := Lib.hid ((O8.out.kept hW0).other hg10 R80.out.symm)
            have Q9 := Lib.hid ((O9.out.kept hW0).other hg10 T90.out.symm)
            have Q10 := Lib.hid (show PMine w1 v3.heap.size v10 (other l (fun i => Gf.mul x (py l i)) (k + 1)) by rw [HS10.out]; exact hown10)
            have V80 := Lib.hid (R80.out.symm.step hat10 (O8.out.kept hW0)).symm
            have V90 := Lib.hid (T90.out.symm.step hat10 (O9.out.kept hW0)).symm
            have X3 := Lib.hid ((X2.out.trans hW0).more hg10 O10.out.block)
            clear hown10 hg10 hat10 hW0 O8 O9 O10 T90 R80 X2 hc1 hc2 HPS HS10 HFF
            go_wp2
            go_roundg g
            case measure => omega
            case rel => exact ⟨k + 1, by omega, by go_num, Q8.out, Q9.out, Q10.out, T89.out, V80.out, V90.out, X3.out⟩

theorem sums2_walk (C : PolySaid) (l : List (Nat × Nat)) (b : List Nat) (x : Nat) (A B : Option Addr) (ca cb : Nat) (w : World) (ha : PRd w A l) (hb : Rd w B b) (hca : l.length ≤ ca) (hx0 : x < 256) : Calls Try.prog 9 #[.slice A l.length ca, .slice B b.length cb, .int .u8 (x : Int)] w (Holds w) := by
  by_cases h : 20 < l.length
  · exact sums2_big C A B _ _ ca cb x h w
  by_cases h0 : Apart l l.length
  · by_cases h1 : b.length < l.length
    · exact sums2_short C l _ x A B ca cb w ha (by omega) h0 h1
    · exact sums2_of C l b x A B ca cb w ha hb hca hx0 (by omega) (by omega) h0
  · exact sums2_twice C l _ x A B ca cb w ha (by omega) h0
end Go.Proofs.Ytagdialceelggaa

/-
  Part 4 of the texts that the seat's proofs stand on; each part of it begins with its own sentence and conditions. Conditions: those that each theorem names.
-/
import Derived.Test.YtjibelmncbfbjaaPack3

/-
  The law BlindFills, walked, under what layer 6's functions are to do. Conditions: none.
-/
namespace Go.Proofs.Ytjibelmncbfbjaa
open Go.RowKit
open Pol (co Sm ev px py Apart)

set_option maxHeartbeats 1600000 in
set_option maxRecDepth 100000 in
theorem fills6_big (C : BlindSaid) (A : Option Addr) (nt ca : Nat) (m : Int) (w : World)  (h : 300 < nt) :
    Calls Try.prog 7 #[.slice A nt ca, .int .i64 m] w (Holds w) := by
  have HAW := Lib.hid (fun u => awake6 C u)
  clear C
  have e0 : decide ((300 : Int) < (nt : Int)) = true := decide_eq_true (by omega)
  clear h
  go_enter Try.func7, Try.ntmps7
  go_wp2_with fail
  refine (HAW.out w).mono ?_
  rintro e w1 ⟨rfl, hx1⟩
  have HX1 := Lib.hid hx1
  clear hx1
  go_wp2_with fail
  refine (HAW.out w1).mono ?_
  rintro e w2 ⟨rfl, hx2⟩
  have HX2 := Lib.hid (HX1.out.trans hx2)
  clear hx2
  go_wp2
  go_ret
  exact ⟨rfl, HX2.out⟩

/-- What Fill and Strip, and the document's, answer of one text, and what their answers turn back to. -/
theorem fills6_fill (C : BlindSaid) (t : List Nat) (m : Int) (A : Option Addr) (ca : Nat) (w : World) (ht : Rd w A t) (hca : t.length ≤ ca) (hl : t.length ≤ 300) (hm : In64 m) :
    ∃ (R : List Nat) (n : Int) (nr : Nat), R.length = nr ∧ nr ≤ 256 ∧ (∀ u, Ext w u → Calls Try.prog 18 #[.slice A t.length ca, .int .i64 m] u (GivesE R n u)) ∧ (∀ u, Ext w u → Calls Try.prog 19 #[.slice A t.length ca, .int .i64 m] u (GivesE R n u)) ∧
      (n = 0 ∨ n = 6) ∧ (n = 0 → (nr : Int) = m ∧ ∀ u X cx, Rd u X R → nr ≤ cx → Calls Try.prog 20 #[.slice X nr cx] u (GivesE t 0 u)) := by
  by_cases hok : FillOk t.length m
  · obtain ⟨k, rfl⟩ : ∃ k : Nat, m = (k : Int) := ⟨m.toNat, by have := hok.1; omega⟩
    have h1 := hok.1
    have h2 := hok.2.1
    have h3 := hok.2.2
    refine ⟨fil t k, 0, k, fil_len t k, by omega, fun u hu => C.fill t k A ca u (ht.ext hu) hca hok, fun u hu => ref_fill t k A ca u (ht.ext hu) hok, .inl rfl, fun _ => ⟨rfl, fun u X cx hX hcx => ?_⟩⟩
    have h := C.strip (fil t k) X cx u hX (by rw [fil_len]; exact hcx) (by rw [fil_len]; exact ⟨by omega, by omega⟩)
    rw [fil_len] at h
    refine h.mono fun e w' he => ?_
    rcases he with ⟨_, hg⟩ | ⟨hno, _⟩
    · rwa [fil_strp (by omega)] at hg
    · exact absurd (fil_tail (by omega)) hno
  · exact ⟨[], 6, 0, rfl, by omega, fun u hu => C.fillOdd t m A ca u (ht.ext hu) hca (by omega) hm hok, fun u hu => ref_fill_no t.length m A ca u hok, .inr rfl, fun h => by omega⟩
theorem fills6_strip (C : BlindSaid) (t : List Nat) (A : Option Addr) (ca : Nat) (w : World) (ht : Rd w A t) (hca : t.length ≤ ca) (hl : t.length ≤ 300) :
    ∃ (R : List Nat) (n : Int) (nr : Nat), R.length = nr ∧ nr ≤ 256 ∧ (∀ u, Ext w u → Calls Try.prog 20 #[.slice A t.length ca] u (GivesE R n u)) ∧ (∀ u, Ext w u → Calls Try.prog 21 #[.slice A t.length ca] u (GivesE R n u)) ∧
      (n = 0 ∨ n = 1 ∨ n = 3) ∧ (n = 0 → ∀ u X cx, Rd u X R → nr ≤ cx → Calls Try.prog 18 #[.slice X nr cx, .int .i64 (t.length : Int)] u (GivesE t 0 u)) := by
  by_cases hn : StripNum t.length
  · obtain ⟨h1, h2⟩ := hn
    by_cases htl : Tail0 t
    · refine ⟨strp t, 0, co t 0, strp_len t, by have := htl.1; omega, fun u hu => (C.strip t A ca u (ht.ext hu) hca ⟨h1, h2⟩).mono fun _ _ h => h.elim (fun h => h.2) (fun h => absurd htl h.1), fun u hu => (ref_strip t A ca u (ht.ext hu) hca ⟨h1, h2⟩).mono fun _ _ h => h.elim (fun h => h.2) (fun h => absurd htl h.1), .inl rfl, fun _ u X cx hX hcx => ?_⟩
      have h := C.fill (strp t) t.length X cx u hX (by rw [strp_len]; exact hcx) ⟨by omega, by omega, by rw [strp_len]; have := htl.1; omega⟩
      rwa [strp_len, strp_fil htl] at h
    · exact ⟨[], 3, 0, rfl, by omega, fun u hu => (C.strip t A ca u (ht.ext hu) hca ⟨h1, h2⟩).mono fun _ _ h => h.elim (fun h => absurd h.1 htl) (fun h => h.2), fun u hu => (ref_strip t A ca u (ht.ext hu) hca ⟨h1, h2⟩).mono fun _ _ h => h.elim (fun h => absurd h.1 htl) (fun h => h.2), .inr (.inr rfl), fun h => by omega⟩
  · exact ⟨[], 1, 0, rfl, by omega, fun u hu => C.stripOdd t A ca u (ht.ext hu) hca (by omega) hn, fun u hu => ref_strip_arg t.length A ca u hn, .inr (.inl rfl), fun h => by omega⟩

set_option maxHeartbeats 6400000 in
set_option maxRecDepth 100000 in
theorem fills6_walk (C : BlindSaid) (t : List Nat) (m : Int) (A : Option Addr) (ca : Nat) (w : World) (ht : Rd w A t) (hca : t.length ≤ ca) (hm : In64 m) :
    Calls Try.prog 7 #[.slice A t.length ca, .int .i64 m] w (Holds w) := by
  by_cases hbig : 300 < t.length
  · exact fills6_big C A _ ca m w hbig
  have HAW := Lib.hid (fun u => awake6 C u)
  obtain ⟨R1, n1, l1, hl1, hb1, hf1, hg1, hn1, hz1⟩ := fills6_fill C t m A ca w ht hca (by omega) hm
  obtain ⟨R2, n2, l2, hl2, hb2, hf2, hg2, hn2, hz2⟩ := fills6_strip C t A ca w ht hca (by omega)
  have HF1 := Lib.hid hf1
  have HG1 := Lib.hid hg1
  have HF2 := Lib.hid hf2
  have HG2 := Lib.hid hg2
  have HL1 := Lib.hid hl1
  have HL2 := Lib.hid hl2
  have HS1 := Lib.hid (fun u X Y cx cy (hX : Rd u X R1) (hY : Rd u Y R1) => show Calls Try.prog 12 #[.slice X l1 cx, .slice Y l1 cy] u (Hands (.bool true) u) from hl1 ▸ same_true R1 X Y cx cy u hX hY (by omega))
  have HS2 := Lib.hid (fun u X Y cx cy (hX : Rd u X R2) (hY : Rd u Y R2) => show Calls Try.prog 12 #[.slice X l2 cx, .slice Y l2 cy] u (Hands (.bool true) u) from hl2 ▸ same_true R2 X Y cx cy u hX hY (by omega))
  have HST := Lib.hid (fun u X cx (hu : Ext w u) (hX : Rd u X t) => same_true t X A cx ca u hX (ht.ext hu) (by omega))
  have e0 : decide ((300 : Int) < (t.length : Int)) = false := decide_eq_false (by omega)
  have hn300 : t.length ≤ 300 := by omega
  have tn1 : (n1 != n1) = false := by simp
  have tn2 : (n2 != n2) = false := by simp
  clear hf1 hg1 hf2 hg2 hl1 hl2 ht C hbig hm
  generalize hnt : t.length = nt at *
  have HNT := Lib.hid hnt
  clear hnt
  by_cases h1 : n1 = 0
  · obtain ⟨hm1, hs1⟩ := hz1 h1
    have HB1 := Lib.hid hs1
    have tm : ((l1 : Int) != m) = false := by rw [hm1]; simp
    subst h1
    clear hz1 hs1 hm1 hn1
    by_cases h2 : n2 = 0
    · have HB2 := Lib.hid (hz2 h2)
      subst h2
      clear hz2 hn2
      go_enter Try.func7, Try.ntmps7
      go_wp2_with fail
      refine (HAW.out w).mono ?_
      rintro e w1 ⟨rfl, hx1⟩
      have HX1 := Lib.hid hx1
      clear hx1
      go_wp2_with fail
      refine (HF1.out w1 HX1.out).mono ?_
      rintro e w2 ⟨v2, rfl, ⟨B2, c2, rfl, hc2, hr2⟩, hx2⟩
      rw [HL1.out] at hc2 ⊢
      have HX2 := Lib.hid (HX1.out.trans hx2)
      have HR2 := Lib.hid hr2
      clear hx2 hr2
      go_wp2_with fail
      refine (HG1.out w2 HX2.out).mono ?_
      rintro e w3 ⟨v3, rfl, ⟨B3, c3, rfl, hc3, hr3⟩, hx3⟩
      rw [HL1.out] at hc3 ⊢
      have HX3 := Lib.hid hx3
      have HR3 := Lib.hid hr3
      clear hx3 hr3
      go_wp2_with fail
      refine (HF2.out w3 (HX2.out.trans HX3.out)).mono ?_
      rintro e w4 ⟨v4, rfl, ⟨B4, c4, rfl, hc4, hr4⟩, hx4⟩
      rw [HL2.out] at hc4 ⊢
      have HX4 := Lib.hid hx4
      have HR4 := Lib.hid hr4
      clear hx4 hr4
      go_wp2_with fail
      refine (HG2.out w4 (HX2.out.trans (HX3.out.trans HX4.out))).mono ?_
      rintro e w5 ⟨v5, rfl, ⟨B5, c5, rfl, hc5, hr5⟩, hx5⟩
      rw [HL2.out] at hc5 ⊢
      have HX5 := Lib.hid (HX2.out.trans (HX3.out.trans (HX4.out.trans hx5)))
      have HQ2 := Lib.hid (HR2.out.ext (HX3.out.trans (HX4.out.trans hx5)))
      have HQ3 := Lib.hid (HR3.out.ext (HX4.out.trans hx5))
      have HQ4 := Lib.hid (HR4.out.ext hx5)
      have HQ5 := Lib.hid hr5
      clear hx5 hr5
      go_wp2_with fail
      refine (HS1.out w5 B2 B3 c2 c3 HQ2.out HQ3.out).mono ?_
      rintro e w6 ⟨rfl, q6, rfl⟩
      go_wp2_with fail
      refine (HS2.out _ B4 B5 c4 c5 (HQ4.out.drewN q6) (HQ5.out.drewN q6)).mono ?_
      rintro e w7 ⟨rfl, q7, rfl⟩
      have HX7 := Lib.hid ((HX5.out.drewN q6).drewN q7)
      have HP2 := Lib.hid ((HQ2.out.drewN q6).drewN q7)
      have HP4 := Lib.hid ((HQ4.out.drewN q6).drewN q7)
      generalize (w5.drewN q6).drewN q7 = w7 at HX7 HP2 HP4 ⊢
      go_wp2_with fail
      refine (HB1.out w7 B2 c2 HP2.out hc2).mono ?_
      rintro e w8 ⟨v8, rfl, ⟨B8, c8, rfl, hc8, hr8⟩, hx8⟩
      rw [HNT.out] at hc8 ⊢
      have HX8 := Lib.hid (HX7.out.trans hx8)
      have HR8 := Lib.hid hr8
      have HP48 := Lib.hid (HP4.out.ext hx8)
      clear hx8 hr8
      go_wp2_with fail
      refine (HST.out w8 B8 c8 HX8.out HR8.out).mono ?_
      rintro e w9 ⟨rfl, q9, rfl⟩
      have HX9 := Lib.hid (HX8.out.drewN q9)
      have HP9 := Lib.hid (HP48.out.drewN q9)
      generalize w8.drewN q9 = w9 at HX9 HP9 ⊢
      go_wp2_with fail
      refine (HB2.out w9 B4 c4 HP9.out hc4).mono ?_
      rintro e w10 ⟨v10, rfl, ⟨B10, c10, rfl, hc10, hr10⟩, hx10⟩
      rw [HNT.out] at hc10 ⊢
      have HX10 := Lib.hid (HX9.out.trans hx10)
      have HR10 := Lib.hid hr10
      clear hx10 hr10
      go_wp2_with fail
      refine (HST.out w10 B10 c10 HX10.out HR10.out).mono ?_
      rintro e w11 ⟨rfl, q11, rfl⟩
      go_wp2
      go_ret
      exact ⟨rfl, HX10.out.drewN q11⟩
    · have tz2 : (n2 == 0) = false := beq_eq_false_iff_ne.2 h2
      clear hz2 hn2 h2
      go_enter Try.func7, Try.ntmps7
      go_wp2_with fail
      refine (HAW.out w).mono ?_
      rintro e w1 ⟨rfl, hx1⟩
      have HX1 := Lib.hid hx1
      clear hx1
      go_wp2_with fail
      refine (HF1.out w1 HX1.out).mono ?_
      rintro e w2 ⟨v2, rfl, ⟨B2, c2, rfl, hc2, hr2⟩, hx2⟩
      rw [HL1.out] at hc2 ⊢
      have HX2 := Lib.hid (HX1.out.trans hx2)
      have HR2 := Lib.hid hr2
      clear hx2 hr2
      go_wp2_with fail
      refine (HG1.out w2 HX2.out).mono ?_
      rintro e w3 ⟨v3, rfl, ⟨B3, c3, rfl, hc3, hr3⟩, hx3⟩
      rw [HL1.out] at hc3 ⊢
      have HX3 := Lib.hid hx3
      have HR3 := Lib.hid hr3
      clear hx3 hr3
      go_wp2_with fail
      refine (HF2.out w3 (HX2.out.trans HX3.out)).mono ?_
      rintro e w4 ⟨v4, rfl, ⟨B4, c4, rfl, hc4, hr4⟩, hx4⟩
      rw [HL2.out] at hc4 ⊢
      have HX4 := Lib.hid hx4
      have HR4 := Lib.hid hr4
      clear hx4 hr4
      go_wp2_with fail
      refine (HG2.out w4 (HX2.out.trans (HX3.out.trans HX4.out))).mono ?_
      rintro e w5 ⟨v5, rfl, ⟨B5, c5, rfl, hc5, hr5⟩, hx5⟩
      rw [HL2.out] at hc5 ⊢
      have HX5 := Lib.hid (HX2.out.trans (HX3.out.trans (HX4.out.trans hx5)))
      have HQ2 := Lib.hid (HR2.out.ext (HX3.out.trans (HX4.out.trans hx5)))
      have HQ3 := Lib.hid (HR3.out.ext (HX4.out.trans hx5))
      have HQ4 := Lib.hid (HR4.out.ext hx5)
      have HQ5 := Lib.hid hr5
      clear hx5 hr5
      go_wp2_with fail
      refine (HS1.out w5 B2 B3 c2 c3 HQ2.out HQ3.out).mono ?_
      rintro e w6 ⟨rfl, q6, rfl⟩
      go_wp2_with fail
      refine (HS2.out _ B4 B5 c4 c5 (HQ4.out.drewN q6) (HQ5.out.drewN q6)).mono ?_
      rintro e w7 ⟨rfl, q7, rfl⟩
      have HX7 := Lib.hid ((HX5.out.drewN q6).drewN q7)
      have HP2 := Lib.hid ((HQ2.out.drewN q6).drewN q7)
      have HP4 := Lib.hid ((HQ4.out.drewN q6).drewN q7)
      generalize (w5.drewN q6).drewN q7 = w7 at HX7 HP2 HP4 ⊢
      go_wp2_with fail
      refine (HB1.out w7 B2 c2 HP2.out hc2).mono ?_
      rintro e w8 ⟨v8, rfl, ⟨B8, c8, rfl, hc8, hr8⟩, hx8⟩
      rw [HNT.out] at hc8 ⊢
      have HX8 := Lib.hid (HX7.out.trans hx8)
      have HR8 := Lib.hid hr8
      have HP48 := Lib.hid (HP4.out.ext hx8)
      clear hx8 hr8
      go_wp2_with fail
      refine (HST.out w8 B8 c8 HX8.out HR8.out).mono ?_
      rintro e w9 ⟨rfl, q9, rfl⟩
      have HX9 := Lib.hid (HX8.out.drewN q9)
      have HP9 := Lib.hid (HP48.out.drewN q9)
      generalize w8.drewN q9 = w9 at HX9 HP9 ⊢
      go_wp2
      go_ret
      exact ⟨rfl, HX9.out⟩
  · have tz1 : (n1 == 0) = false := beq_eq_false_iff_ne.2 h1
    clear hz1 hn1 h1
    by_cases h2 : n2 = 0
    · have HB2 := Lib.hid (hz2 h2)
      subst h2
      clear hz2 hn2
      go_enter Try.func7, Try.ntmps7
      go_wp2_with fail
      refine (HAW.out w).mono ?_
      rintro e w1 ⟨rfl, hx1⟩
      have HX1 := Lib.hid hx1
      clear hx1
      go_wp2_with fail
      refine (HF1.out w1 HX1.out).mono ?_
      rintro e w2 ⟨v2, rfl, ⟨B2, c2, rfl, hc2, hr2⟩, hx2⟩
      rw [HL1.out] at hc2 ⊢
      have HX2 := Lib.hid (HX1.out.trans hx2)
      have HR2 := Lib.hid hr2
      clear hx2 hr2
      go_wp2_with fail
      refine (HG1.out w2 HX2.out).mono ?_
      rintro e w3 ⟨v3, rfl, ⟨B3, c3, rfl, hc3, hr3⟩, hx3⟩
      rw [HL1.out] at hc3 ⊢
      have HX3 := Lib.hid hx3
      have HR3 := Lib.hid hr3
      clear hx3 hr3
      go_wp2_with fail
      refine (HF2.out w3 (HX2.out.trans HX3.out)).mono ?_
      rintro e w4 ⟨v4, rfl, ⟨B4, c4, rfl, hc4, hr4⟩, hx4⟩
      rw [HL2.out] at hc4 ⊢
      have HX4 := Lib.hid hx4
      have HR4 := Lib.hid hr4
      clear hx4 hr4
      go_wp2_with fail
      refine (HG2.out w4 (HX2.out.trans (HX3.out.trans HX4.out))).mono ?_
      rintro e w5 ⟨v5, rfl, ⟨B5, c5, rfl, hc5, hr5⟩, hx5⟩
      rw [HL2.out] at hc5 ⊢
      have HX5 := Lib.hid (HX2.out.trans (HX3.out.trans (HX4.out.trans hx5)))
      have HQ2 := Lib.hid (HR2.out.ext (HX3.out.trans (HX4.out.trans hx5)))
      have HQ3 := Lib.hid (HR3.out.ext (HX4.out.trans hx5))
      have HQ4 := Lib.hid (HR4.out.ext hx5)
      have HQ5 := Lib.hid hr5
      clear hx5 hr5
      go_wp2_with fail
      refine (HS1.out w5 B2 B3 c2 c3 HQ2.out HQ3.out).mono ?_
      rintro e w6 ⟨rfl, q6, rfl⟩
      go_wp2_with fail
      refine (HS2.out _ B4 B5 c4 c5 (HQ4.out.drewN q6) (HQ5.out.drewN q6)).mono ?_
      rintro e w7 ⟨rfl, q7, rfl⟩
      have HX7 := Lib.hid ((HX5.out.drewN q6).drewN q7)
      have HP2 := Lib.hid ((HQ2.out.drewN q6).drewN q7)
      have HP4 := Lib.hid ((HQ4.out.drewN q6).drewN q7)
      generalize (w5.drewN q6).drewN q7 = w7 at HX7 HP2 HP4 ⊢
      have HX9 := Lib.hid HX7.out
      have HP9 := Lib.hid HP4.out
      obtain ⟨w9, hw9⟩ : ∃ w9, w9 = w7 := ⟨_, rfl⟩
      subst hw9
      go_wp2_with fail
      refine (HB2.out w9 B4 c4 HP9.out hc4).mono ?_
      rintro e w10 ⟨v10, rfl, ⟨B10, c10, rfl, hc10, hr10⟩, hx10⟩
      rw [HNT.out] at hc10 ⊢
      have HX10 := Lib.hid (HX9.out.trans hx10)
      have HR10 := Lib.hid hr10
      clear hx10 hr10
      go_wp2_with fail
      refine (HST.out w10 B10 c10 HX10.out HR10.out).mono ?_
      rintro e w11 ⟨rfl, q11, rfl⟩
      go_wp2
      go_ret
      exact ⟨rfl, HX10.out.drewN q11⟩
    · have tz2 : (n2 == 0) = false := beq_eq_false_iff_ne.2 h2
      clear hz2 hn2 h2
      go_enter Try.func7, Try.ntmps7
      go_wp2_with fail
      refine (HAW.out w).mono ?_
      rintro e w1 ⟨rfl, hx1⟩
      have HX1 := Lib.hid hx1
      clear hx1
      go_wp2_with fail
      refine (HF1.out w1 HX1.out).mono ?_
      rintro e w2 ⟨v2, rfl, ⟨B2, c2, rfl, hc2, hr2⟩, hx2⟩
      rw [HL1.out] at hc2 ⊢
      have HX2 := Lib.hid (HX1.out.trans hx2)
      have HR2 := Lib.hid hr2
      clear hx2 hr2
      go_wp2_with fail
      refine (HG1.out w2 HX2.out).mono ?_
      rintro e w3 ⟨v3, rfl, ⟨B3, c3, rfl, hc3, hr3⟩, hx3⟩
      rw [HL1.out] at hc3 ⊢
      have HX3 := Lib.hid hx3
      have HR3 := Lib.hid hr3
      clear hx3 hr3
      go_wp2_with fail
      refine (HF2.out w3 (HX2.out.trans HX3.out)).mono ?_
      rintro e w4 ⟨v4, rfl, ⟨B4, c4, rfl, hc4, hr4⟩, hx4⟩
      rw [HL2.out] at hc4 ⊢
      have HX4 := Lib.hid hx4
      have HR4 := Lib.hid hr4
      clear hx4 hr4
      go_wp2_with fail
      refine (HG2.out w4 (HX2.out.trans (HX3.out.trans HX4.out))).mono ?_
      rintro e w5 ⟨v5, rfl, ⟨B5, c5, rfl, hc5, hr5⟩, hx5⟩
      rw [HL2.out] at hc5 ⊢
      have HX5 := Lib.hid (HX2.out.trans (HX3.out.trans (HX4.out.trans hx5)))
      have HQ2 := Lib.hid (HR2.out.ext (HX3.out.trans (HX4.out.trans hx5)))
      have HQ3 := Lib.hid (HR3.out.ext (HX4.out.trans hx5))
      have HQ4 := Lib.hid (HR4.out.ext hx5)
      have HQ5 := Lib.hid hr5
      clear hx5 hr5
      go_wp2_with fail
      refine (HS1.out w5 B2 B3 c2 c3 HQ2.out HQ3.out).mono ?_
      rintro e w6 ⟨rfl, q6, rfl⟩
      go_wp2_with fail
      refine (HS2.out _ B4 B5 c4 c5 (HQ4.out.drewN q6) (HQ5.out.drewN q6)).mono ?_
      rintro e w7 ⟨rfl, q7, rfl⟩
      have HX7 := Lib.hid ((HX5.out.drewN q6).drewN q7)
      have HP2 := Lib.hid ((HQ2.out.drewN q6).drewN q7)
      have HP4 := Lib.hid ((HQ4.out.drewN q6).drewN q7)
      generalize (w5.drewN q6).drewN q7 = w7 at HX7 HP2 HP4 ⊢
      have HX9 := Lib.hid HX7.out
      have HP9 := Lib.hid HP4.out
      obtain ⟨w9, hw9⟩ : ∃ w9, w9 = w7 := ⟨_, rfl⟩
      subst hw9
      go_wp2
      go_ret
      exact ⟨rfl, HX9.out⟩
end Go.Proofs.Ytjibelmncbfbjaa

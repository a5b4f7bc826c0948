/-
  Part 9 of the texts that the seat's proofs stand on; each part of it begins with its own sentence and conditions. Conditions: those that each theorem names.
-/
import Derived.Test.YthbfodmpoheahaaDoorGrowsPack8
import Derived.Deep.DeepCutAuto
import Derived.Maps.AppendAt
import Derived.Great.BuildSlice

/-
  What a round of the document's own digest reckons. Conditions: none.
-/
namespace Go.Proofs.YthbfodmpoheahaaDoor
open Go.RowKit
open Pol (co Sm)

theorem or24 (x y : Nat) (hy : y < 16777216) : x * 16777216 ||| y = x * 16777216 + y := by
  have h := Nat.two_pow_add_eq_or_of_lt (i := 24) (b := y) hy x
  rw [Nat.mul_comm x, ← show (2 : Nat) ^ 24 = 16777216 from rfl, ← h]
theorem or_word (x0 x1 x2 x3 : Nat) (h1 : x1 < 256) (h2 : x2 < 256) (h3 : x3 < 256) :
    x0 * 16777216 ||| x1 * 65536 = x0 * 16777216 + x1 * 65536 ∧ (x0 * 16777216 + x1 * 65536) ||| x2 * 256 = x0 * 16777216 + x1 * 65536 + x2 * 256 ∧ (x0 * 16777216 + x1 * 65536 + x2 * 256) ||| x3 = x0 * 16777216 + x1 * 65536 + x2 * 256 + x3 := by
  refine ⟨or24 x0 _ (by omega), ?_, ?_⟩
  · have h := Nat.two_pow_add_eq_or_of_lt (i := 16) (b := x2 * 256) (by omega) (x0 * 256 + x1)
    rw [show x0 * 16777216 + x1 * 65536 = 2 ^ 16 * (x0 * 256 + x1) by omega, ← h]
  · have h := Nat.two_pow_add_eq_or_of_lt (i := 8) (b := x3) (by omega) (x0 * 65536 + x1 * 256 + x2)
    rw [show x0 * 16777216 + x1 * 65536 + x2 * 256 = 2 ^ 8 * (x0 * 65536 + x1 * 256 + x2) by omega, ← h]
theorem NRd.fix {k : IntKind} {w : World} {b o : Nat} {l : List Nat} (h : NRd k w (some ⟨b, o, none⟩) l) (j : Nat) (hj : j < l.length) : w.cell? ⟨b, o + j, none⟩ = some (.int k ((co l j : Nat) : Int)) := by
  obtain ⟨b', o', e, hc⟩ := h j hj
  injection e with e
  injection e with e1 e2
  subst e1; subst e2
  exact hc
def AfterS (u w : World) : Prop := Ext u w
theorem word_lt {t : List Nat} (h : Sm t) (j : Nat) : word t j < 4294967296 := by
  have h0 := h j
  have h1 := h (j + 1)
  have h2 := h (j + 2)
  have h3 := h (j + 3)
  unfold word
  omega
set_option maxHeartbeats 1600000 in
/-- What a round reckons, all at once. -/
theorem round_prep {P : Prop} (Kv WL G S : List Nat) (i bs os bk ok bw ow : Nat) (wr : World) (hKW : W32 Kv) (hWW : W32 WL) (hSW : W32 S) (hSE : rds Kv WL G i = S)
    (hSC : ∀ W, AfterS wr W → ∀ j, j < 8 → W.cell? ⟨bs, os + j, none⟩ = some (.int .u32 ((co S j : Nat) : Int))) (hck : wr.cell? ⟨bk, ok + i, none⟩ = some (.int .u32 ((co Kv i : Nat) : Int))) (hcw : wr.cell? ⟨bw, ow + i, none⟩ = some (.int .u32 ((co WL i : Nat) : Int)))
    (h : ∀ (kk ww s0 s1 s2 s3 s4 s5 s6 s7 t6 t11 t25 t2 t13 t22 e1 e2 ne c1x c2x c3x d1x d2x m1x m2x m3x m4x m5x o1 o2 o3 o4 w2 n0 n4 : Nat), (Hid (∀ W, AfterS wr W → W.cell? ⟨bs, os, none⟩ = some (.int .u32 (s0 : Int)))) → (Hid (∀ W, AfterS wr W → W.cell? ⟨bs, os + 1, none⟩ = some (.int .u32 (s1 : Int)))) → (Hid (∀ W, AfterS wr W → W.cell? ⟨bs, os + 2, none⟩ = some (.int .u32 (s2 : Int)))) → (Hid (∀ W, AfterS wr W → W.cell? ⟨bs, os + 3, none⟩ = some (.int .u32 (s3 : Int)))) → (Hid (∀ W, AfterS wr W → W.cell? ⟨bs, os + 4, none⟩ = some (.int .u32 (s4 : Int)))) → (Hid (∀ W, AfterS wr W → W.cell? ⟨bs, os + 5, none⟩ = some (.int .u32 (s5 : Int)))) → (Hid (∀ W, AfterS wr W → W.cell? ⟨bs, os + 6, none⟩ = some (.int .u32 (s6 : Int)))) → (wr.cell? ⟨bs, os, none⟩ = some (.int .u32 (s0 : Int))) → (wr.cell? ⟨bs, os + 4, none⟩ = some (.int .u32 (s4 : Int))) → (wr.cell? ⟨bs, os + 5, none⟩ = some (.int .u32 (s5 : Int))) → (wr.cell? ⟨bs, os + 6, none⟩ = some (.int .u32 (s6 : Int))) → (wr.cell? ⟨bs, os + 7, none⟩ = some (.int .u32 (s7 : Int))) → (wr.cell? ⟨bk, ok + i, none⟩ = some (.int .u32 (kk : Int))) → (wr.cell? ⟨bw, ow + i, none⟩ = some (.int .u32 (ww : Int))) → (Hid (∀ W, Calls Tryd.prog 47 #[.int .u32 (s4 : Int), .int .u64 6] W (fun e w' => e = .returned (.int .u32 (t6 : Int)) ∧ W = w'))) → (Hid (∀ W, Calls Tryd.prog 47 #[.int .u32 (s4 : Int), .int .u64 11] W (fun e w' => e = .returned (.int .u32 (t11 : Int)) ∧ W = w'))) → (Hid (∀ W, Calls Tryd.prog 47 #[.int .u32 (s4 : Int), .int .u64 25] W (fun e w' => e = .returned (.int .u32 (t25 : Int)) ∧ W = w'))) → (Hid (∀ W, Calls Tryd.prog 47 #[.int .u32 (s0 : Int), .int .u64 2] W (fun e w' => e = .returned (.int .u32 (t2 : Int)) ∧ W = w'))) → (Hid (∀ W, Calls Tryd.prog 47 #[.int .u32 (s0 : Int), .int .u64 13] W (fun e w' => e = .returned (.int .u32 (t13 : Int)) ∧ W = w'))) → (Hid (∀ W, Calls Tryd.prog 47 #[.int .u32 (s0 : Int), .int .u64 22] W (fun e w' => e = .returned (.int .u32 (t22 : Int)) ∧ W = w'))) → (bits .xor .u32 (t6 : Int) (t11 : Int) = (e1 : Int)) → (bits .xor .u32 (e1 : Int) (t25 : Int) = (e2 : Int)) → (bits .and .u32 (s4 : Int) (s5 : Int) = (c1x : Int)) → (bits .and .u32 (ne : Int) (s6 : Int) = (c2x : Int)) → (bits .xor .u32 (c1x : Int) (c2x : Int) = (c3x : Int)) → (bits .xor .u32 (t2 : Int) (t13 : Int) = (d1x : Int)) → (bits .xor .u32 (d1x : Int) (t22 : Int) = (d2x : Int)) → (bits .and .u32 (s0 : Int) (s1 : Int) = (m1x : Int)) → (bits .and .u32 (s0 : Int) (s2 : Int) = (m2x : Int)) → (bits .xor .u32 (m1x : Int) (m2x : Int) = (m3x : Int)) → (bits .and .u32 (s1 : Int) (s2 : Int) = (m4x : Int)) → (bits .xor .u32 (m3x : Int) (m4x : Int) = (m5x : Int)) → (IntKind.u32.wrap (4294967295 - (s4 : Int)) = (ne : Int)) → (IntKind.u32.wrap ((s7 : Int) + (e2 : Int)) = (o1 : Int)) → (IntKind.u32.wrap ((o1 : Int) + (c3x : Int)) = (o2 : Int)) → (IntKind.u32.wrap ((o2 : Int) + (kk : Int)) = (o3 : Int)) → (IntKind.u32.wrap ((o3 : Int) + (ww : Int)) = (o4 : Int)) → (IntKind.u32.wrap ((d2x : Int) + (m5x : Int)) = (w2 : Int)) → (IntKind.u32.wrap ((o4 : Int) + (w2 : Int)) = (n0 : Int)) → (IntKind.u32.wrap ((s3 : Int) + (o4 : Int)) = (n4 : Int)) → (Hid (Unit → rds Kv WL G (i + 1) = [n0, s0, s1, s2, n4, s4, s5, s6])) → P) : P := by
  have hRN : rds Kv WL G (i + 1) = rnd (co Kv i) (co WL i) S := by rw [rds, hSE]
  have hk32 := hKW.at i
  have hw32 := hWW.at i
  have hb0 := hSW.at 0
  have hb1 := hSW.at 1
  have hb2 := hSW.at 2
  have hb3 := hSW.at 3
  have hb4 := hSW.at 4
  have hb5 := hSW.at 5
  have hb6 := hSW.at 6
  have hb7 := hSW.at 7
  have HON := Lib.hid (fun (_ : Unit) => (show one (co Kv i) (co WL i) S = (co S 7 + (tw (co S 4) 6 ^^^ tw (co S 4) 11 ^^^ tw (co S 4) 25) + ((co S 4 &&& co S 5) ^^^ ((4294967295 - co S 4) &&& co S 6)) + co Kv i + co WL i) % 4294967296 from rfl))
  have HTW := Lib.hid (fun (_ : Unit) => (show two S = ((tw (co S 0) 2 ^^^ tw (co S 0) 13 ^^^ tw (co S 0) 22) + ((co S 0 &&& co S 1) ^^^ (co S 0 &&& co S 2) ^^^ (co S 1 &&& co S 2))) % 4294967296 from rfl))
  have HRD := Lib.hid (fun (_ : Unit) => (show rnd (co Kv i) (co WL i) S = [(one (co Kv i) (co WL i) S + two S) % 4294967296, co S 0, co S 1, co S 2, (co S 3 + one (co Kv i) (co WL i) S) % 4294967296, co S 4, co S 5, co S 6] from rfl))
  obtain ⟨kk, hkk⟩ : ∃ q, co Kv i = q := ⟨_, rfl⟩
  obtain ⟨ww, hww⟩ : ∃ q, co WL i = q := ⟨_, rfl⟩
  rw [hkk] at hck hk32 HON HRD hRN
  rw [hww] at hcw hw32 HON HRD hRN
  obtain ⟨s0, hs0⟩ : ∃ q, co S 0 = q := ⟨_, rfl⟩
  rw [hs0] at hb0 HTW HRD
  obtain ⟨s1, hs1⟩ : ∃ q, co S 1 = q := ⟨_, rfl⟩
  rw [hs1] at hb1 HTW HRD
  obtain ⟨s2, hs2⟩ : ∃ q, co S 2 = q := ⟨_, rfl⟩
  rw [hs2] at hb2 HTW HRD
  obtain ⟨s3, hs3⟩ : ∃ q, co S 3 = q := ⟨_, rfl⟩
  rw [hs3] at hb3 HRD
  obtain ⟨s4, hs4⟩ : ∃ q, co S 4 = q := ⟨_, rfl⟩
  rw [hs4] at hb4 HON HRD
  obtain ⟨s5, hs5⟩ : ∃ q, co S 5 = q := ⟨_, rfl⟩
  rw [hs5] at hb5 HON HRD
  obtain ⟨s6, hs6⟩ : ∃ q, co S 6 = q := ⟨_, rfl⟩
  rw [hs6] at hb6 HON HRD
  obtain ⟨s7, hs7⟩ : ∃ q, co S 7 = q := ⟨_, rfl⟩
  rw [hs7] at hb7 HON
  have HC0 := Lib.hid (show ∀ W, AfterS wr W → W.cell? ⟨bs, os, none⟩ = some (.int .u32 (s0 : Int)) from fun W hW => by have h := hSC W hW 0 (by decide); rw [hs0] at h; exact h)
  have HC1 := Lib.hid (show ∀ W, AfterS wr W → W.cell? ⟨bs, os + 1, none⟩ = some (.int .u32 (s1 : Int)) from fun W hW => by have h := hSC W hW 1 (by decide); rw [hs1] at h; exact h)
  have HC2 := Lib.hid (show ∀ W, AfterS wr W → W.cell? ⟨bs, os + 2, none⟩ = some (.int .u32 (s2 : Int)) from fun W hW => by have h := hSC W hW 2 (by decide); rw [hs2] at h; exact h)
  have HC3 := Lib.hid (show ∀ W, AfterS wr W → W.cell? ⟨bs, os + 3, none⟩ = some (.int .u32 (s3 : Int)) from fun W hW => by have h := hSC W hW 3 (by decide); rw [hs3] at h; exact h)
  have HC4 := Lib.hid (show ∀ W, AfterS wr W → W.cell? ⟨bs, os + 4, none⟩ = some (.int .u32 (s4 : Int)) from fun W hW => by have h := hSC W hW 4 (by decide); rw [hs4] at h; exact h)
  have HC5 := Lib.hid (show ∀ W, AfterS wr W → W.cell? ⟨bs, os + 5, none⟩ = some (.int .u32 (s5 : Int)) from fun W hW => by have h := hSC W hW 5 (by decide); rw [hs5] at h; exact h)
  have HC6 := Lib.hid (show ∀ W, AfterS wr W → W.cell? ⟨bs, os + 6, none⟩ = some (.int .u32 (s6 : Int)) from fun W hW => by have h := hSC W hW 6 (by decide); rw [hs6] at h; exact h)
  have HC7 := Lib.hid (show ∀ W, AfterS wr W → W.cell? ⟨bs, os + 7, none⟩ = some (.int .u32 (s7 : Int)) from fun W hW => by have h := hSC W hW 7 (by decide); rw [hs7] at h; exact h)
  have HT6 := Lib.hid (fun W => show Calls Tryd.prog 47 #[.int .u32 (s4 : Int), .int .u64 6] W (fun e w' => e = .returned (.int .u32 ((tw s4 6 : Nat) : Int)) ∧ W = w') from ref10_turn s4 6 W hb4 (by decide))
  have lt6 := tw_lt (n := 6) hb4
  obtain ⟨t6, ht6⟩ : ∃ q, tw s4 6 = q := ⟨_, rfl⟩
  rw [ht6] at HT6 lt6 HON
  have HT11 := Lib.hid (fun W => show Calls Tryd.prog 47 #[.int .u32 (s4 : Int), .int .u64 11] W (fun e w' => e = .returned (.int .u32 ((tw s4 11 : Nat) : Int)) ∧ W = w') from ref10_turn s4 11 W hb4 (by decide))
  have lt11 := tw_lt (n := 11) hb4
  obtain ⟨t11, ht11⟩ : ∃ q, tw s4 11 = q := ⟨_, rfl⟩
  rw [ht11] at HT11 lt11 HON
  have HT25 := Lib.hid (fun W => show Calls Tryd.prog 47 #[.int .u32 (s4 : Int), .int .u64 25] W (fun e w' => e = .returned (.int .u32 ((tw s4 25 : Nat) : Int)) ∧ W = w') from ref10_turn s4 25 W hb4 (by decide))
  have lt25 := tw_lt (n := 25) hb4
  obtain ⟨t25, ht25⟩ : ∃ q, tw s4 25 = q := ⟨_, rfl⟩
  rw [ht25] at HT25 lt25 HON
  have HT2 := Lib.hid (fun W => show Calls Tryd.prog 47 #[.int .u32 (s0 : Int), .int .u64 2] W (fun e w' => e = .returned (.int .u32 ((tw s0 2 : Nat) : Int)) ∧ W = w') from ref10_turn s0 2 W hb0 (by decide))
  have lt2 := tw_lt (n := 2) hb0
  obtain ⟨t2, ht2⟩ : ∃ q, tw s0 2 = q := ⟨_, rfl⟩
  rw [ht2] at HT2 lt2 HTW
  have HT13 := Lib.hid (fun W => show Calls Tryd.prog 47 #[.int .u32 (s0 : Int), .int .u64 13] W (fun e w' => e = .returned (.int .u32 ((tw s0 13 : Nat) : Int)) ∧ W = w') from ref10_turn s0 13 W hb0 (by decide))
  have lt13 := tw_lt (n := 13) hb0
  obtain ⟨t13, ht13⟩ : ∃ q, tw s0 13 = q := ⟨_, rfl⟩
  rw [ht13] at HT13 lt13 HTW
  have HT22 := Lib.hid (fun W => show Calls Tryd.prog 47 #[.int .u32 (s0 : Int), .int .u64 22] W (fun e w' => e = .returned (.int .u32 ((tw s0 22 : Nat) : Int)) ∧ W = w') from ref10_turn s0 22 W hb0 (by decide))
  have lt22 := tw_lt (n := 22) hb0
  obtain ⟨t22, ht22⟩ : ∃ q, tw s0 22 = q := ⟨_, rfl⟩
  rw [ht22] at HT22 lt22 HTW
  obtain ⟨e1, he1⟩ : ∃ q, t6 ^^^ t11 = q := ⟨_, rfl⟩
  have le1 : e1 < 4294967296 := by rw [← he1]; exact Nat.xor_lt_two_pow (n := 32) lt6 lt11
  have qe1 : bits .xor .u32 (t6 : Int) (t11 : Int) = (e1 : Int) := by rw [← he1]; exact u32_xor_nat t6 t11 lt6 lt11
  rw [he1] at HON
  obtain ⟨e2, he2⟩ : ∃ q, e1 ^^^ t25 = q := ⟨_, rfl⟩
  have le2 : e2 < 4294967296 := by rw [← he2]; exact Nat.xor_lt_two_pow (n := 32) le1 lt25
  have qe2 : bits .xor .u32 (e1 : Int) (t25 : Int) = (e2 : Int) := by rw [← he2]; exact u32_xor_nat e1 t25 le1 lt25
  rw [he2] at HON
  obtain ⟨ne, hne⟩ : ∃ q, 4294967295 - s4 = q := ⟨_, rfl⟩
  have lne : ne < 4294967296 := by omega
  have qne : IntKind.u32.wrap (4294967295 - (s4 : Int)) = (ne : Int) := by rw [IntKind.wrap_u32]; omega
  rw [hne] at HON
  obtain ⟨c1x, hc1x⟩ : ∃ q, s4 &&& s5 = q := ⟨_, rfl⟩
  have lc1x : c1x < 4294967296 := by rw [← hc1x]; exact Nat.lt_of_le_of_lt Nat.and_le_left hb4
  have qc1x : bits .and .u32 (s4 : Int) (s5 : Int) = (c1x : Int) := by rw [← hc1x]; exact u32_and_nat s4 s5 hb4 hb5
  rw [hc1x] at HON
  obtain ⟨c2x, hc2x⟩ : ∃ q, ne &&& s6 = q := ⟨_, rfl⟩
  have lc2x : c2x < 4294967296 := by rw [← hc2x]; exact Nat.lt_of_le_of_lt Nat.and_le_left lne
  have qc2x : bits .and .u32 (ne : Int) (s6 : Int) = (c2x : Int) := by rw [← hc2x]; exact u32_and_nat ne s6 lne hb6
  rw [hc2x] at HON
  obtain ⟨c3x, hc3x⟩ : ∃ q, c1x ^^^ c2x = q := ⟨_, rfl⟩
  have lc3x : c3x < 4294967296 := by rw [← hc3x]; exact Nat.xor_lt_two_pow (n := 32) lc1x lc2x
  have qc3x : bits .xor .u32 (c1x : Int) (c2x : Int) = (c3x : Int) := by rw [← hc3x]; exact u32_xor_nat c1x c2x lc1x lc2x
  rw [hc3x] at HON
  obtain ⟨d1x, hd1x⟩ : ∃ q, t2 ^^^ t13 = q := ⟨_, rfl⟩
  have ld1x : d1x < 4294967296 := by rw [← hd1x]; exact Nat.xor_lt_two_pow (n := 32) lt2 lt13
  have qd1x : bits .xor .u32 (t2 : Int) (t13 : Int) = (d1x : Int) := by rw [← hd1x]; exact u32_xor_nat t2 t13 lt2 lt13
  rw [hd1x] at HTW
  obtain ⟨d2x, hd2x⟩ : ∃ q, d1x ^^^ t22 = q := ⟨_, rfl⟩
  have ld2x : d2x < 4294967296 := by rw [← hd2x]; exact Nat.xor_lt_two_pow (n := 32) ld1x lt22
  have qd2x : bits .xor .u32 (d1x : Int) (t22 : Int) = (d2x : Int) := by rw [← hd2x]; exact u32_xor_nat d1x t22 ld1x lt22
  rw [hd2x] at HTW
  obtain ⟨m1x, hm1x⟩ : ∃ q, s0 &&& s1 = q := ⟨_, rfl⟩
  have lm1x : m1x < 4294967296 := by rw [← hm1x]; exact Nat.lt_of_le_of_lt Nat.and_le_left hb0
  have qm1x : bits .and .u32 (s0 : Int) (s1 : Int) = (m1x : Int) := by rw [← hm1x]; exact u32_and_nat s0 s1 hb0 hb1
  rw [hm1x] at HTW
  obtain ⟨m2x, hm2x⟩ : ∃ q, s0 &&& s2 = q := ⟨_, rfl⟩
  have lm2x : m2x < 4294967296 := by rw [← hm2x]; exact Nat.lt_of_le_of_lt Nat.and_le_left hb0
  have qm2x : bits .and .u32 (s0 : Int) (s2 : Int) = (m2x : Int) := by rw [← hm2x]; exact u32_and_nat s0 s2 hb0 hb2
  rw [hm2x] at HTW
  obtain ⟨m3x, hm3x⟩ : ∃ q, m1x ^^^ m2x = q := ⟨_, rfl⟩
  have lm3x : m3x < 4294967296 := by rw [← hm3x]; exact Nat.xor_lt_two_pow (n := 32) lm1x lm2x
  have qm3x : bits .xor .u32 (m1x : Int) (m2x : Int) = (m3x : Int) := by rw [← hm3x]; exact u32_xor_nat m1x m2x lm1x lm2x
  rw [hm3x] at HTW
  obtain ⟨m4x, hm4x⟩ : ∃ q, s1 &&& s2 = q := ⟨_, rfl⟩
  have lm4x : m4x < 4294967296 := by rw [← hm4x]; exact Nat.lt_of_le_of_lt Nat.and_le_left hb1
  have qm4x : bits .and .u32 (s1 : Int) (s2 : Int) = (m4x : Int) := by rw [← hm4x]; exact u32_and_nat s1 s2 hb1 hb2
  rw [hm4x] at HTW
  obtain ⟨m5x, hm5x⟩ : ∃ q, m3x ^^^ m4x = q := ⟨_, rfl⟩
  have lm5x : m5x < 4294967296 := by rw [← hm5x]; exact Nat.xor_lt_two_pow (n := 32) lm3x lm4x
  have qm5x : bits .xor .u32 (m3x : Int) (m4x : Int) = (m5x : Int) := by rw [← hm5x]; exact u32_xor_nat m3x m4x lm3x lm4x
  rw [hm5x] at HTW
  obtain ⟨o1, ho1⟩ : ∃ q, (s7 + e2) % 4294967296 = q := ⟨_, rfl⟩
  have qo1 : IntKind.u32.wrap ((s7 : Int) + (e2 : Int)) = (o1 : Int) := by rw [IntKind.wrap_u32]; omega
  obtain ⟨o2, ho2⟩ : ∃ q, (o1 + c3x) % 4294967296 = q := ⟨_, rfl⟩
  have qo2 : IntKind.u32.wrap ((o1 : Int) + (c3x : Int)) = (o2 : Int) := by rw [IntKind.wrap_u32]; omega
  obtain ⟨o3, ho3⟩ : ∃ q, (o2 + kk) % 4294967296 = q := ⟨_, rfl⟩
  have qo3 : IntKind.u32.wrap ((o2 : Int) + (kk : Int)) = (o3 : Int) := by rw [IntKind.wrap_u32]; omega
  obtain ⟨o4, ho4⟩ : ∃ q, (o3 + ww) % 4294967296 = q := ⟨_, rfl⟩
  have qo4 : IntKind.u32.wrap ((o3 : Int) + (ww : Int)) = (o4 : Int) := by rw [IntKind.wrap_u32]; omega
  obtain ⟨w2, hw2⟩ : ∃ q, (d2x + m5x) % 4294967296 = q := ⟨_, rfl⟩
  have qw2 : IntKind.u32.wrap ((d2x : Int) + (m5x : Int)) = (w2 : Int) := by rw [IntKind.wrap_u32]; omega
  obtain ⟨n0, hn0⟩ : ∃ q, (o4 + w2) % 4294967296 = q := ⟨_, rfl⟩
  have qn0 : IntKind.u32.wrap ((o4 : Int) + (w2 : Int)) = (n0 : Int) := by rw [IntKind.wrap_u32]; omega
  obtain ⟨n4, hn4⟩ : ∃ q, (s3 + o4) % 4294967296 = q := ⟨_, rfl⟩
  have qn4 : IntKind.u32.wrap ((s3 : Int) + (o4 : Int)) = (n4 : Int) := by rw [IntKind.wrap_u32]; omega
  have HO4 := Lib.hid (fun (_ : Unit) => (show one kk ww S = o4 from by rw [(HON.out ())]; omega))
  have HW2 := Lib.hid (fun (_ : Unit) => (show two S = w2 from by rw [(HTW.out ()), hw2]))
  have HNW := Lib.hid (fun (_ : Unit) => (show rds Kv WL G (i + 1) = [n0, s0, s1, s2, n4, s4, s5, s6] from by rw [hRN, (HRD.out ()), (HO4.out ()), (HW2.out ()), hn0, hn4]))
  exact h kk ww s0 s1 s2 s3 s4 s5 s6 s7 t6 t11 t25 t2 t13 t22 e1 e2 ne c1x c2x c3x d1x d2x m1x m2x m3x m4x m5x o1 o2 o3 o4 w2 n0 n4 HC0 HC1 HC2 HC3 HC4 HC5 HC6 (HC0.out wr (Ext.refl wr)) (HC4.out wr (Ext.refl wr)) (HC5.out wr (Ext.refl wr)) (HC6.out wr (Ext.refl wr)) (HC7.out wr (Ext.refl wr)) hck hcw HT6 HT11 HT25 HT2 HT13 HT22 qe1 qe2 qc1x qc2x qc3x qd1x qd2x qm1x qm2x qm3x qm4x qm5x qne qo1 qo2 qo3 qo4 qw2 qn0 qn4 HNW
end Go.Proofs.YthbfodmpoheahaaDoor

/-
  A slice literal of eight numbers of 32 bits, in one step. Conditions: none.
-/
namespace Go.Proofs.YthbfodmpoheahaaDoor
open Go.RowKit

theorem fill8 (v0 v1 v2 v3 v4 v5 v6 v7 : Value) (h0 : v0.cells = #[v0]) (h1 : v1.cells = #[v1]) (h2 : v2.cells = #[v2]) (h3 : v3.cells = #[v3]) (h4 : v4.cells = #[v4]) (h5 : v5.cells = #[v5]) (h6 : v6.cells = #[v6]) (h7 : v7.cells = #[v7]) (z : Value) :
    Instr.fill (fun i => some (i * 1, 1)) ((Array.range (8 * 1)).map (z.cells[· % z.cells.size]!)) [(0, v0), (1, v1), (2, v2), (3, v3), (4, v4), (5, v5), (6, v6), (7, v7)] = some #[v0, v1, v2, v3, v4, v5, v6, v7] := by
  exact Great.fill_flat [v0, v1, v2, v3, v4, v5, v6, v7] _ (fun v hv => by
    simp only [List.mem_cons, List.not_mem_nil, or_false] at hv
    rcases hv with rfl | rfl | rfl | rfl | rfl | rfl | rfl | rfl <;> assumption) (by simp)
theorem run_build8 (n0 n1 n2 n3 n4 n5 n6 n7 : Nat) (w : World) :
    (Instr.buildSlice 66 8 #[(0, .int .u32 (n0 : Int)), (1, .int .u32 (n1 : Int)), (2, .int .u32 (n2 : Int)), (3, .int .u32 (n3 : Int)), (4, .int .u32 (n4 : Int)), (5, .int .u32 (n5 : Int)), (6, .int .u32 (n6 : Int)), (7, .int .u32 (n7 : Int))]).run Tryd.prog w =
      .ok (.slice (some ⟨w.heap.size, 0, none⟩) 8 8) (w.alloc (.cells #[.int .u32 (n0 : Int), .int .u32 (n1 : Int), .int .u32 (n2 : Int), .int .u32 (n3 : Int), .int .u32 (n4 : Int), .int .u32 (n5 : Int), .int .u32 (n6 : Int), .int .u32 (n7 : Int)] 59)) := by
  have hs : (Tryd.prog.info? 59).map (·.size) = some 1 := by kernel_rfl
  have hz : ((Tryd.prog.info? 59).bind (·.zero)).isSome = true := by kernel_rfl
  cases hie : Tryd.prog.info? 59 with
  | none => simp [hie] at hs
  | some ie =>
    simp only [hie, Option.map_some, Option.some.injEq, Option.bind_some] at hs hz
    obtain ⟨z, hzz⟩ := Option.isSome_iff_exists.1 hz
    refine run_buildSlice w 66 59 8 _ _ ie z Tryd.underlying66 hie hzz (by rw [hs]; decide) (by rw [hs]; decide) ?_
    rw [hs]
    exact fill8 _ _ _ _ _ _ _ _ rfl rfl rfl rfl rfl rfl rfl rfl z
theorem wpList_build8 {ops : Array Oper} {rest : List Oper} {o : Oper} {a : Act} {w : World} {Q : Exit → Act → World → Prop} (hg : o.guard = none) (x0 x1 x2 x3 x4 x5 x6 x7 : Operand)
    (ho : o.op = .buildSlice 66 8 #[(0, x0), (1, x1), (2, x2), (3, x3), (4, x4), (5, x5), (6, x6), (7, x7)]) (n0 n1 n2 n3 n4 n5 n6 n7 : Nat)
    (h0 : a.eval x0 = .int .u32 (n0 : Int)) (h1 : a.eval x1 = .int .u32 (n1 : Int)) (h2 : a.eval x2 = .int .u32 (n2 : Int)) (h3 : a.eval x3 = .int .u32 (n3 : Int)) (h4 : a.eval x4 = .int .u32 (n4 : Int)) (h5 : a.eval x5 = .int .u32 (n5 : Int)) (h6 : a.eval x6 = .int .u32 (n6 : Int)) (h7 : a.eval x7 = .int .u32 (n7 : Int))
    (h : wpList Tryd.prog ops Q rest (a.put o.dst (.slice (some ⟨w.heap.size, 0, none⟩) 8 8)) (w.alloc (.cells #[.int .u32 (n0 : Int), .int .u32 (n1 : Int), .int .u32 (n2 : Int), .int .u32 (n3 : Int), .int .u32 (n4 : Int), .int .u32 (n5 : Int), .int .u32 (n6 : Int), .int .u32 (n7 : Int)] 59))) : wpList Tryd.prog ops Q (o :: rest) a w :=
  wpList_plain hg fun K hK => by
    unfold Oper.wp execOp
    have e : (#[(0, x0), (1, x1), (2, x2), (3, x3), (4, x4), (5, x5), (6, x6), (7, x7)] : Array (Nat × Operand)).map (fun (i, x) => (i, a.eval x)) = #[(0, .int .u32 (n0 : Int)), (1, .int .u32 (n1 : Int)), (2, .int .u32 (n2 : Int)), (3, .int .u32 (n3 : Int)), (4, .int .u32 (n4 : Int)), (5, .int .u32 (n5 : Int)), (6, .int .u32 (n6 : Int)), (7, .int .u32 (n7 : Int))] := by
      simp [h0, h1, h2, h3, h4, h5, h6, h7]
    simp only [ho, Sem.run_bind, e, run_build8, Result.andThen_ok]
    exact hK _ _ h
end Go.Proofs.YthbfodmpoheahaaDoor

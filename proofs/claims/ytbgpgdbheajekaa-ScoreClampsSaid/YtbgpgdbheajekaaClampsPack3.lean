/-
  Part 3 of the texts that the seat's proofs stand on; each part of it begins with its own sentence and conditions. Conditions: those that each theorem names.
-/
import Derived.Test.YtbgpgdbheajekaaClampsPack2
import Derived.Lib.SliceRun
import Derived.Laws.Cover2
import Derived.ProofKit
import Derived.OpenShut
import Derived.SizedLaws
import Derived.ChangeSame
import Derived.Deep.Slices
import Derived.Deep.SlicePairs

/-
  Merging in place, on plain lists. Conditions: none; nothing of the program is named here.
-/
namespace Fl
open Pol (co)

/-- What stands at a goes k places to the right; what stands at m goes k places to the left. -/
def lft (d : List Nat) (a : Nat) : Nat → List Nat
  | 0 => d
  | k + 1 => sw (lft d a k) (a + k) (a + k + 1)
def rgt (d : List Nat) (m : Nat) : Nat → List Nat
  | 0 => d
  | k + 1 => sw (rgt d m k) (m - k) (m - k - 1)
theorem lft_len (d : List Nat) (a k : Nat) : (lft d a k).length = d.length := by
  induction k with
  | zero => rfl
  | succ k ih => unfold lft; rw [sw_len, ih]
theorem rgt_len (d : List Nat) (a k : Nat) : (rgt d a k).length = d.length := by
  induction k with
  | zero => rfl
  | succ k ih => unfold rgt; rw [sw_len, ih]
theorem lft_co {d : List Nat} {a : Nat} : ∀ {k : Nat}, a + k < d.length → ∀ p, co (lft d a k) p = if a ≤ p ∧ p < a + k then co d (p + 1) else if p = a + k then co d a else co d p
  | 0, _, p => by
    rw [if_neg (by omega)]
    split
    · rename_i h; subst h; rfl
    · rfl
  | k + 1, h, p => by
    unfold lft
    rw [sw_co (by rw [lft_len]; omega) (by rw [lft_len]; omega), lft_co (by omega), lft_co (by omega), lft_co (by omega)]
    by_cases c1 : p = a + k + 1
    · rw [if_pos c1, if_neg (by omega), if_pos rfl, if_neg (by omega), if_pos (by omega)]
    · rw [if_neg c1]
      by_cases c2 : p = a + k
      · rw [if_pos c2, if_neg (by omega), if_neg (by omega), if_pos (by omega)]
        congr 1
        omega
      · rw [if_neg c2, if_neg c2]
        by_cases c3 : a ≤ p ∧ p < a + k
        · rw [if_pos c3, if_pos (by omega)]
        · rw [if_neg c3, if_neg (by omega), if_neg (by omega)]
theorem rgt_co {d : List Nat} {m : Nat} : ∀ {k : Nat}, k ≤ m → m < d.length → ∀ p, co (rgt d m k) p = if m - k < p ∧ p ≤ m then co d (p - 1) else if p = m - k then co d m else co d p
  | 0, _, _, p => by
    rw [if_neg (by omega)]
    split
    · rename_i h; rw [show p = m by omega]; rfl
    · rfl
  | k + 1, h, hm, p => by
    unfold rgt
    rw [sw_co (by rw [rgt_len]; omega) (by rw [rgt_len]; omega), rgt_co (by omega) hm, rgt_co (by omega) hm, rgt_co (by omega) hm]
    by_cases c1 : p = m - k - 1
    · rw [if_pos c1, if_neg (by omega), if_pos rfl, if_neg (by omega), if_pos (by omega)]
    · rw [if_neg c1]
      by_cases c2 : p = m - k
      · rw [if_pos c2, if_neg (by omega), if_neg (by omega), if_pos (by omega)]
        congr 1
        omega
      · rw [if_neg c2, if_neg c2]
        by_cases c3 : m - k < p ∧ p ≤ m
        · rw [if_pos c3, if_pos (by omega)]
        · rw [if_neg c3, if_neg (by omega), if_neg (by omega)]
theorem lft_pin {d : List Nat} {a x y : Nat} : ∀ {k : Nat}, x ≤ a → a + k < y → y ≤ d.length → PIn x y d (lft d a k)
  | 0, _, _, _ => PIn.refl ..
  | k + 1, h1, h2, h3 => (lft_pin (k := k) h1 (by omega) h3).trans (PIn.swap (by omega) (by omega) (by omega) (by omega) (by rw [lft_len]; exact h3))
theorem rgt_pin {d : List Nat} {m x y : Nat} : ∀ {k : Nat}, x + k ≤ m → m < y → y ≤ d.length → PIn x y d (rgt d m k)
  | 0, _, _, _ => PIn.refl ..
  | k + 1, h1, h2, h3 => (rgt_pin (k := k) (by omega) h2 h3).trans (PIn.swap (by omega) (by omega) (by omega) (by omega) (by rw [rgt_len]; exact h3))
/-- One on the left is put in. -/
theorem lft_sin {d : List Nat} {a b i : Nat} (hb : b ≤ d.length) (hi : a + 1 ≤ i) (hib : i ≤ b) (hs : SIn (a + 1) b d) (hl : ∀ p, a + 1 ≤ p → p < i → K (co d p) < K (co d a)) (hr : ∀ p, i ≤ p → p < b → K (co d a) ≤ K (co d p)) : SIn a b (lft d a (i - (a + 1))) := fun p q h1 h2 h3 => by
  have s := lft_co (d := d) (a := a) (k := i - (a + 1)) (by omega)
  rw [s, s]
  by_cases c1 : a ≤ p ∧ p < a + (i - (a + 1))
  · rw [if_pos c1]
    by_cases c2 : a ≤ q ∧ q < a + (i - (a + 1))
    · rw [if_pos c2]; exact hs _ _ (by omega) (by omega) (by omega)
    · rw [if_neg c2]
      by_cases c3 : q = a + (i - (a + 1))
      · rw [if_pos c3]; exact Int.le_of_lt (hl _ (by omega) (by omega))
      · rw [if_neg c3]; exact hs _ _ (by omega) (by omega) (by omega)
  · rw [if_neg c1, if_neg (show ¬ (a ≤ q ∧ q < a + (i - (a + 1))) by omega)]
    by_cases c4 : p = a + (i - (a + 1))
    · rw [if_pos c4]
      by_cases c3 : q = a + (i - (a + 1))
      · rw [if_pos c3]; exact Int.le_refl _
      · rw [if_neg c3]; exact hr _ (by omega) (by omega)
    · rw [if_neg c4, if_neg (by omega)]; exact hs _ _ (by omega) (by omega) (by omega)
/-- One on the right is put in. -/
theorem rgt_sin {d : List Nat} {a m i : Nat} (hm : m < d.length) (hi : a ≤ i) (him : i ≤ m) (hs : SIn a m d) (hl : ∀ p, a ≤ p → p < i → K (co d p) ≤ K (co d m)) (hr : ∀ p, i ≤ p → p < m → K (co d m) < K (co d p)) : SIn a (m + 1) (rgt d m (m - i)) := fun p q h1 h2 h3 => by
  have s := rgt_co (d := d) (m := m) (k := m - i) (by omega) hm
  rw [s, s]
  by_cases c1 : m - (m - i) < p ∧ p ≤ m
  · rw [if_pos c1, if_pos (by omega)]; exact hs _ _ (by omega) (by omega) (by omega)
  · rw [if_neg c1]
    by_cases c4 : p = m - (m - i)
    · rw [if_pos c4]
      by_cases c2 : m - (m - i) < q ∧ q ≤ m
      · rw [if_pos c2]; exact Int.le_of_lt (hr _ (by omega) (by omega))
      · rw [if_neg c2, if_pos (by omega)]; exact Int.le_refl _
    · rw [if_neg c4]
      by_cases c2 : m - (m - i) < q ∧ q ≤ m
      · rw [if_pos c2]; exact hs _ _ (by omega) (by omega) (by omega)
      · rw [if_neg c2]
        by_cases c3 : q = m - (m - i)
        · rw [if_pos c3]; exact hl _ (by omega) (by omega)
        · rw [if_neg c3]; exact hs _ _ (by omega) (by omega) (by omega)
theorem Rot.none {a m b : Nat} (d : List Nat) (h : a = m ∨ b = m) (h1 : a ≤ m) (h2 : m ≤ b) : Rot a m b d d := fun p => by
  by_cases c1 : p < a ∨ b ≤ p
  · rw [if_pos c1]
  · rw [if_neg c1]
    rcases h with rfl | rfl
    · rw [if_pos (by omega)]
      congr 1
      omega
    · rw [if_neg (by omega)]
      congr 1
      omega
/-- What the search for the place of the cut leaves. -/
structure Cutp (a m b mid s : Nat) (d : List Nat) : Prop where
  lo : a ≤ s
  lo2 : mid + m ≤ b + s
  hm : s ≤ m
  hmid : s ≤ mid
  left : a < s → mid + m < b + s → K (co d (s - 1)) ≤ K (co d (mid + m - s))
  right : s < m → s < mid → K (co d (mid + m - s - 1)) < K (co d s)
/-- Behind the turn: four stretches in order, the two on the left not behind the two on the right. -/
theorem Cutp.parts {a m b mid s : Nat} {d d' : List Nat} (h : Cutp a m b mid s d) (ham : a < m) (hmb : m < b) (h1 : SIn a m d) (h2 : SIn m b d) (hr : Rot s m (mid + m - s) d d') :
    SIn a s d' ∧ SIn s mid d' ∧ SIn mid (mid + m - s) d' ∧ SIn (mid + m - s) b d' ∧ ∀ p q, a ≤ p → p < mid → mid ≤ q → q < b → K (co d' p) ≤ K (co d' q) := by
  obtain ⟨lo, lo2, hm, hmid, hl, hri⟩ := h
  have w1 : ∀ p, p < s ∨ mid + m - s ≤ p → co d' p = co d p := fun p hp => by rw [hr p, if_pos hp]
  have w2 : ∀ p, s ≤ p → p < mid → co d' p = co d (p + (m - s)) := fun p k1 k2 => by rw [hr p, if_neg (by omega), if_pos (by omega)]
  have w3 : ∀ p, mid ≤ p → p < mid + m - s → co d' p = co d (p - (mid - s)) := fun p k1 k2 => by
    rw [hr p, if_neg (by omega), if_neg (by omega)]
    congr 1
    omega
  refine ⟨fun p q k1 k2 k3 => ?_, fun p q k1 k2 k3 => ?_, fun p q k1 k2 k3 => ?_, fun p q k1 k2 k3 => ?_, fun p q k1 k2 k3 k4 => ?_⟩
  · rw [w1 p (by omega), w1 q (by omega)]; exact h1 _ _ k1 k2 (by omega)
  · rw [w2 p (by omega) (by omega), w2 q (by omega) (by omega)]; exact h2 _ _ (by omega) (by omega) (by omega)
  · rw [w3 p (by omega) (by omega), w3 q (by omega) (by omega)]; exact h1 _ _ (by omega) (by omega) (by omega)
  · rw [w1 p (by omega), w1 q (by omega)]; exact h2 _ _ (by omega) k2 k3
  · by_cases c1 : p < s
    · rw [w1 p (by omega)]
      by_cases c2 : q < mid + m - s
      · rw [w3 q k3 c2]; exact h1 _ _ k1 (by omega) (by omega)
      · rw [w1 q (by omega)]
        have e1 := hl (by omega) (by omega)
        have e2 := h1 p (s - 1) k1 (by omega) (by omega)
        have e3 := h2 (mid + m - s) q (by omega) (by omega) k4
        omega
    · rw [w2 p (by omega) k2]
      by_cases c2 : q < mid + m - s
      · rw [w3 q k3 c2]
        have e1 := hri (by omega) (by omega)
        have e2 := h2 (p + (m - s)) (mid + m - s - 1) (by omega) (by omega) (by omega)
        have e3 := h1 s (q - (mid - s)) (by omega) (by omega) (by omega)
        omega
      · rw [w1 q (by omega)]; exact h2 _ _ (by omega) (by omega) k4
theorem cross_keep {a m b : Nat} {d d1 d2 : List Nat} (h1 : PIn a m d d1) (h2 : PIn m b d1 d2) (hx : ∀ p q, a ≤ p → p < m → m ≤ q → q < b → K (co d p) ≤ K (co d q)) : ∀ p q, a ≤ p → p < m → m ≤ q → q < b → K (co d2 p) ≤ K (co d2 q) := fun p q k1 k2 k3 k4 => by
  obtain ⟨j, j1, j2, e⟩ := h1.inn p k1 k2
  obtain ⟨l, l1, l2, e'⟩ := h2.inn q k3 k4
  rw [h2.out p (by omega), e, e', h1.out l (by omega)]
  exact hx j l j1 j2 l1 l2
theorem up_of {d : List Nat} (h : SIn 0 d.length d) : Up d := List.pairwise_iff_getElem.2 fun i j hi hj hij => by
  have := h i j (Nat.zero_le _) (by omega) hj
  unfold co at this
  rwa [List.getElem?_eq_getElem hi, List.getElem?_eq_getElem hj] at this
end Fl

/-
  The library's symMerge over rates of a call's own. Conditions: no more than 2^16 rates.
-/
namespace Go.Proofs.Ytbgpgdbheajekaa
open Go.RowKit
open Pol (co)
open Fl (K sw swr PIn SIn Rot Ins Cutp)

/-- What symMerge is to do. -/
def MrgS (N : Nat) : Prop := ∀ (a m b base g n c : Nat) (d : List Nat) (w : World), b - a ≤ N → a < m → m < b → b ≤ n → n ≤ 65536 → Own w base g n c d → F64 d → SIn a m d → SIn m b d →
    Calls Try.prog 34 #[.slice (some ⟨g, 0, none⟩) n c, .int .i64 (a : Int), .int .i64 (m : Int), .int .i64 (b : Int), cmpv] w (Lves (fun d' => SIn a b d' ∧ PIn a b d d') base g n c w)
set_option maxHeartbeats 3200000 in
set_option maxRecDepth 100000 in
theorem mrg_a (C : CmpOk) (a m b base g n c : Nat) (d : List Nat) (w : World) (_ham : a < m) (hmb : m < b) (hbn : b ≤ n) (hn : n ≤ 65536) (h : Own w base g n c d) (hf : F64 d) (hs1 : SIn a m d) (hs2 : SIn m b d) (hA : m = a + 1) :
    Calls Try.prog 34 #[.slice (some ⟨g, 0, none⟩) n c, .int .i64 (a : Int), .int .i64 (m : Int), .int .i64 (b : Int), cmpv] w (Lves (fun d' => SIn a b d' ∧ PIn a b d d') base g n c w) := by
  have hst := fun W p m x => run_store Try.prog W p (.float .f64 x) m rfl
  have H := Lib.hid h
  have HF := Lib.hid hf
  have HN := Lib.hid h.len
  have HS1 := Lib.hid hs1
  have HS2 := Lib.hid hs2
  clear h hf hs1 hs2
  have zA : (m : Int) - (a : Int) = 1 := by omega
  have HA := Lib.hid hA
  clear hA
  go_enter Try.func34, Try.ntmps34
  go_wp2
  go_loopg [10, 11] (b - m) (fun q s1 s2 wx => ∃ i j : Nat, s1 = .int .i64 (i : Int) ∧ s2 = .int .i64 (j : Int) ∧ m ≤ i ∧ i ≤ j ∧ j ≤ b ∧ j ≤ i + q ∧ (∀ p, m ≤ p → p < i → K (co d p) < K (co d a)) ∧ (∀ p, j ≤ p → p < b → K (co d a) ≤ K (co d p)) ∧ ∃ k, wx = w.drewN k)
  case atStart => exact ⟨m, b, rfl, rfl, Nat.le_refl _, by omega, Nat.le_refl _, by omega, fun p h1 h2 => absurd h2 (by omega), fun p h1 h2 => absurd h2 (by omega), 0, rfl⟩
  case round =>
    obtain ⟨i, j, rfl, rfl, hli, hij, hjh, hq, hv1, hv2, k, hwk⟩ := hrel
    have HW := Lib.hid hwk
    have HV1 := Lib.hid hv1
    have HV2 := Lib.hid hv2
    clear hwk hv1 hv2
    by_cases hlt : i < j
    · have hltz : (i : Int) < (j : Int) := by omega
      cases gk with
      | zero => omega
      | succ q =>
        obtain ⟨h, eh⟩ : ∃ q, (i + j) / 2 = q := ⟨_, rfl⟩
        obtain ⟨ij, eij⟩ : ∃ q, i + j = q := ⟨_, rfl⟩
        have zij : (i : Int) + (j : Int) = (ij : Int) := by omega
        have zh : (ij : Int) / 2 = (h : Int) := by omega
        obtain ⟨c1, _⟩ := H.out.cell (i := h) (by omega)
        obtain ⟨c2, _⟩ := H.out.cell (i := a) (by omega)
        have c1' : wr.cell? ⟨g, h, none⟩ = some (.float .f64 (co d h)) := by rw [HW.out]; exact c1
        have c2' : wr.cell? ⟨g, a, none⟩ = some (.float .f64 (co d a)) := by rw [HW.out]; exact c2
        obtain ⟨z, hz, HCC⟩ := C (co d h) (co d a) (HF.out h) (HF.out a)
        have HC := Lib.hid HCC
        have HZ := Lib.hid hz
        clear c1 c2 hz HCC
        by_cases hneg : z < 0
        · have dz : decide (z < 0) = true := decide_eq_true hneg
          have HNG := Lib.hid hneg
          clear hneg
          go_wp2
          go_quiet (first | (go_at_call 27; exact quiet_hands (HC.out _)))
          go_wp2
          go_roundg q
          case measure => omega
          case rel => exact ⟨h + 1, j, by go_num, rfl, by omega, by omega, hjh, by omega, fun p h1 h2 => by have e := HZ.out.1 HNG.out; have e2 := HS2.out p h h1 (by omega) (by omega); omega, HV2.out, k + nq, by rw [HW.out, World.drewN_drewN]⟩
        · have dz : decide (z < 0) = false := decide_eq_false hneg
          have HNG := Lib.hid hneg
          clear hneg
          go_wp2
          go_quiet (first | (go_at_call 27; exact quiet_hands (HC.out _)))
          go_wp2
          go_roundg q
          case measure => omega
          case rel => exact ⟨i, h, rfl, by first | rfl | go_num, hli, by omega, by omega, by omega, HV1.out, fun p h1 h2 => by have e : ¬ K (co d h) < K (co d a) := fun hh => absurd (HZ.out.2 hh) (by have := HNG.out; omega); have e2 := HS2.out h p (by omega) h1 h2; omega, k + nq, by rw [HW.out, World.drewN_drewN]⟩
    · obtain rfl : i = j := by omega
      have hltz : ¬ (i : Int) < (i : Int) := by omega
      have HO := Lib.hid (show Own wr base g n c d by rw [HW.out]; exact H.out)
      have HG := Lib.hid (show w.grownBy wr (some g) by rw [HW.out]; exact grown_drewN (grown_refl _ _) k)
      clear hq
      obtain ⟨i1, ei1⟩ : ∃ q, i - 1 = q := ⟨_, rfl⟩
      have zi : (i : Int) - 1 = (i1 : Int) := by omega
      go_wp2
      go_loopg [13] (i - m) (fun q s wx => ∃ t : Nat, s = .int .i64 ((a + t : Nat) : Int) ∧ t + q = i - m ∧ Own wx base g n c (Fl.lft d a t) ∧ w.grownBy wx (some g))
      case atStart => exact ⟨0, by first | rfl | (congr 1; done), by omega, HO.out, HG.out⟩
      case round =>
        obtain ⟨t, rfl, htq, ho, hg⟩ := hrel
        have HO2 := Lib.hid ho
        have HG2 := Lib.hid hg
        clear ho hg
        cases gk with
        | zero =>
          obtain ⟨kk, ek⟩ : ∃ q, a + t = q := ⟨_, rfl⟩
          rw [ek]
          have dz : decide ((kk : Int) < (i1 : Int)) = false := decide_eq_false (by omega)
          have dz2 : decide ((kk : Nat) < (i1 : Nat)) = false := decide_eq_false (by omega)
          have dz3 : decide ((kk : Nat) < (i1 : Nat)) = false := decide_eq_false (by omega)
          obtain rfl : t = i - m := by omega
          clear ek
          go_wp2
          refine bodyPost_ret (results_none rfl _ _ _) rfl ?_
          exact ⟨rfl, _, ⟨by have h := Fl.lft_sin (a := a) (b := b) (i := i) (d := d) (by rw [HN.out]; exact hbn) (by omega) (by omega) (by have h := HS2.out; rwa [HA.out] at h) (fun p h1 h2 => HV1.out p (by have := HA.out; omega) h2) HV2.out; rwa [← HA.out] at h, Fl.lft_pin (Nat.le_refl _) (by omega) (by rw [HN.out]; exact hbn)⟩, HO2.out, HG2.out⟩
        | succ q =>
          obtain ⟨kk, ek⟩ : ∃ q, a + t = q := ⟨_, rfl⟩
          obtain ⟨k1, e1⟩ : ∃ q, a + t + 1 = q := ⟨_, rfl⟩
          rw [ek]
          have dz : decide ((kk : Int) < (i1 : Int)) = true := decide_eq_true (by omega)
          have dz2 : decide ((kk : Nat) < (i1 : Nat)) = true := decide_eq_true (by omega)
          have dz3 : decide ((kk : Nat) < (i1 : Nat)) = true := decide_eq_true (by omega)
          have zk : (kk : Int) + 1 = (k1 : Int) := by omega
          have hne : kk ≠ k1 := by omega
          have bk : kk < n := by omega
          have bk1 : k1 < n := by omega
          obtain ⟨c1, f1⟩ := HO2.out.cell (i := kk) (by omega)
          obtain ⟨c2, f2⟩ := HO2.out.cell (i := k1) (by omega)
          obtain ⟨v1, hv1⟩ : ∃ v, co (Fl.lft d a t) kk = v := ⟨_, rfl⟩
          obtain ⟨v2, hv2⟩ : ∃ v, co (Fl.lft d a t) k1 = v := ⟨_, rfl⟩
          rw [hv1] at c1
          rw [hv2] at c2
          have HV := Lib.hid (And.intro hv1 hv2)
          have HE := Lib.hid (And.intro ek e1)
          have HTQ := Lib.hid htq
          clear hv1 hv2 htq
          go_wp2
          go_big_region
          all_goals go_wp2
          go_roundg q
          case measure => omega
          case rel =>
            have htq := HTQ.out
            refine ⟨t + 1, by go_num, by omega, ?_, grown_put (grown_put (grown_drewN HG2.out 1) _ _) _ _⟩
            unfold Fl.lft
            rw [show a + t + 1 = k1 from HE.out.2, show a + t = kk from HE.out.1]
            exact swap_own (HO2.out.drewN 1) HV.out.2 HV.out.1
set_option maxHeartbeats 3200000 in
set_option maxRecDepth 100000 in
theorem mrg_b (C : CmpOk) (a m b base g n c : Nat) (d : List Nat) (w : World) (ham : a < m) (hmb : m < b) (hbn : b ≤ n) (hn : n ≤ 65536) (h : Own w base g n c d) (hf : F64 d) (hs1 : SIn a m d) (hs2 : SIn m b d) (hA : m ≠ a + 1) (hB : b = m + 1) :
    Calls Try.prog 34 #[.slice (some ⟨g, 0, none⟩) n c, .int .i64 (a : Int), .int .i64 (m : Int), .int .i64 (b : Int), cmpv] w (Lves (fun d' => SIn a b d' ∧ PIn a b d d') base g n c w) := by
  have hst := fun W p m x => run_store Try.prog W p (.float .f64 x) m rfl
  have H := Lib.hid h
  have HF := Lib.hid hf
  have HN := Lib.hid h.len
  have HS1 := Lib.hid hs1
  have HS2 := Lib.hid hs2
  clear h hf hs1 hs2
  have zA : (((m : Int) - (a : Int)) == 1) = false := by simp; omega
  have zA' : decide ((m : Int) - (a : Int) = 1) = false := decide_eq_false (by omega)
  have zB : (b : Int) - (m : Int) = 1 := by omega
  have HB := Lib.hid hB
  clear hB hA
  go_enter Try.func34, Try.ntmps34
  go_wp2
  go_loopg [14, 15] (m - a) (fun q s1 s2 wx => ∃ i j : Nat, s1 = .int .i64 (i : Int) ∧ s2 = .int .i64 (j : Int) ∧ a ≤ i ∧ i ≤ j ∧ j ≤ m ∧ j ≤ i + q ∧ (∀ p, a ≤ p → p < i → K (co d p) ≤ K (co d m)) ∧ (∀ p, j ≤ p → p < m → K (co d m) < K (co d p)) ∧ ∃ k, wx = w.drewN k)
  case atStart => exact ⟨a, m, rfl, rfl, Nat.le_refl _, by omega, Nat.le_refl _, by omega, fun p h1 h2 => absurd h2 (by omega), fun p h1 h2 => absurd h2 (by omega), 0, rfl⟩
  case round =>
    obtain ⟨i, j, rfl, rfl, hli, hij, hjh, hq, hv1, hv2, k, hwk⟩ := hrel
    have HW := Lib.hid hwk
    have HV1 := Lib.hid hv1
    have HV2 := Lib.hid hv2
    clear hwk hv1 hv2
    by_cases hlt : i < j
    · have hltz : (i : Int) < (j : Int) := by omega
      cases gk with
      | zero => omega
      | succ q =>
        obtain ⟨h, eh⟩ : ∃ q, (i + j) / 2 = q := ⟨_, rfl⟩
        obtain ⟨ij, eij⟩ : ∃ q, i + j = q := ⟨_, rfl⟩
        have zij : (i : Int) + (j : Int) = (ij : Int) := by omega
        have zh : (ij : Int) / 2 = (h : Int) := by omega
        obtain ⟨c1, _⟩ := H.out.cell (i := m) (by omega)
        obtain ⟨c2, _⟩ := H.out.cell (i := h) (by omega)
        have c1' : wr.cell? ⟨g, m, none⟩ = some (.float .f64 (co d m)) := by rw [HW.out]; exact c1
        have c2' : wr.cell? ⟨g, h, none⟩ = some (.float .f64 (co d h)) := by rw [HW.out]; exact c2
        obtain ⟨z, hz, HCC⟩ := C (co d m) (co d h) (HF.out m) (HF.out h)
        have HC := Lib.hid HCC
        have HZ := Lib.hid hz
        clear c1 c2 hz HCC
        by_cases hneg : z < 0
        · have dz : decide (z < 0) = true := decide_eq_true hneg
          have HNG := Lib.hid hneg
          clear hneg
          go_wp2
          go_quiet (first | (go_at_call 27; exact quiet_hands (HC.out _)))
          go_wp2
          go_roundg q
          case measure => omega
          case rel => exact ⟨i, h, rfl, by first | rfl | go_num, hli, by omega, by omega, by omega, HV1.out, fun p h1 h2 => by have e := HZ.out.1 HNG.out; have e2 := HS1.out h p (by omega) h1 h2; omega, k + nq, by rw [HW.out, World.drewN_drewN]⟩
        · have dz : decide (z < 0) = false := decide_eq_false hneg
          have HNG := Lib.hid hneg
          clear hneg
          go_wp2
          go_quiet (first | (go_at_call 27; exact quiet_hands (HC.out _)))
          go_wp2
          go_roundg q
          case measure => omega
          case rel => exact ⟨h + 1, j, by go_num, rfl, by omega, by omega, hjh, by omega, fun p h1 h2 => by have e : ¬ K (co d m) < K (co d h) := fun hh => absurd (HZ.out.2 hh) (by have := HNG.out; omega); have e2 := HS1.out p h h1 (by omega) (by omega); omega, HV2.out, k + nq, by rw [HW.out, World.drewN_drewN]⟩
    · obtain rfl : i = j := by omega
      have hltz : ¬ (i : Int) < (i : Int) := by omega
      have HO := Lib.hid (show Own wr base g n c d by rw [HW.out]; exact H.out)
      have HG := Lib.hid (show w.grownBy wr (some g) by rw [HW.out]; exact grown_drewN (grown_refl _ _) k)
      clear hq
      go_wp2
      go_loopg [17] (m - i) (fun q s wx => ∃ t : Nat, s = .int .i64 ((m - t : Nat) : Int) ∧ t + q = m - i ∧ Own wx base g n c (Fl.rgt d m t) ∧ w.grownBy wx (some g))
      case atStart => exact ⟨0, by first | rfl | (congr 1; done), by omega, HO.out, HG.out⟩
      case round =>
        obtain ⟨t, rfl, htq, ho, hg⟩ := hrel
        have HO2 := Lib.hid ho
        have HG2 := Lib.hid hg
        clear ho hg
        cases gk with
        | zero =>
          obtain ⟨kk, ek⟩ : ∃ q, m - t = q := ⟨_, rfl⟩
          rw [ek]
          have dz : decide ((kk : Int) > (i : Int)) = false := decide_eq_false (by omega)
          have dz2 : decide ((kk : Nat) > (i : Nat)) = false := decide_eq_false (by omega)
          have dz3 : decide ((i : Nat) < (kk : Nat)) = false := decide_eq_false (by omega)
          obtain rfl : t = m - i := by omega
          clear ek
          go_wp2
          refine bodyPost_ret (results_none rfl _ _ _) rfl ?_
          exact ⟨rfl, _, ⟨by have h := Fl.rgt_sin (a := a) (m := m) (i := i) (d := d) (by rw [HN.out]; omega) (by omega) (by omega) HS1.out HV1.out HV2.out; rwa [← HB.out] at h, Fl.rgt_pin (by omega) (by omega) (by rw [HN.out]; exact hbn)⟩, HO2.out, HG2.out⟩
        | succ q =>
          obtain ⟨kk, ek⟩ : ∃ q, m - t = q := ⟨_, rfl⟩
          obtain ⟨k1, e1⟩ : ∃ q, m - t - 1 = q := ⟨_, rfl⟩
          rw [ek]
          have dz : decide ((kk : Int) > (i : Int)) = true := decide_eq_true (by omega)
          have dz2 : decide ((kk : Nat) > (i : Nat)) = true := decide_eq_true (by omega)
          have dz3 : decide ((i : Nat) < (kk : Nat)) = true := decide_eq_true (by omega)
          have zk : (kk : Int) - 1 = (k1 : Int) := by omega
          have hne : kk ≠ k1 := by omega
          have bk : kk < n := by omega
          have bk1 : k1 < n := by omega
          obtain ⟨c1, f1⟩ := HO2.out.cell (i := kk) (by omega)
          obtain ⟨c2, f2⟩ := HO2.out.cell (i := k1) (by omega)
          obtain ⟨v1, hv1⟩ : ∃ v, co (Fl.rgt d m t) kk = v := ⟨_, rfl⟩
          obtain ⟨v2, hv2⟩ : ∃ v, co (Fl.rgt d m t) k1 = v := ⟨_, rfl⟩
          rw [hv1] at c1
          rw [hv2] at c2
          have HV := Lib.hid (And.intro hv1 hv2)
          have HE := Lib.hid (And.intro ek e1)
          have HTQ := Lib.hid htq
          clear hv1 hv2 htq
          go_wp2
          go_big_region
          all_goals go_wp2
          go_roundg q
          case measure => omega
          case rel =>
            have htq := HTQ.out
            refine ⟨t + 1, by first | go_num | (congr 1; omega), by omega, ?_, grown_put (grown_put (grown_drewN HG2.out 1) _ _) _ _⟩
            unfold Fl.rgt
            rw [show m - t - 1 = k1 from HE.out.2, show m - t = kk from HE.out.1]
            exact swap_own (HO2.out.drewN 1) HV.out.2 HV.out.1
end Go.Proofs.Ytbgpgdbheajekaa

/-
  The library's symMerge: the third part, where the middle lies left of the border. Conditions: no more than 2^16 rates.
-/
namespace Go.Proofs.Ytbgpgdbheajekaa
open Go.RowKit
open Pol (co)
open Fl (K sw swr PIn SIn Rot Ins Cutp)

set_option maxHeartbeats 12800000 in
set_option maxRecDepth 100000 in
theorem mrg_c1 (C : CmpOk) (N : Nat) (IH : MrgS N) (a m b mid base g n c : Nat) (d : List Nat) (w : World) (ham : a < m) (hmb : m < b) (hbn : b ≤ n) (hn : n ≤ 65536) (h : Own w base g n c d) (hf : F64 d) (hs1 : SIn a m d) (hs2 : SIn m b d) (hN : b - a ≤ N + 1) (_hA : m ≠ a + 1) (hB : b ≠ m + 1) (hmd : (a + b) / 2 = mid) (hmid : mid < m) :
    Calls Try.prog 34 #[.slice (some ⟨g, 0, none⟩) n c, .int .i64 (a : Int), .int .i64 (m : Int), .int .i64 (b : Int), cmpv] w (Lves (fun d' => SIn a b d' ∧ PIn a b d d') base g n c w) := by
  have hst := fun W p m x => run_store Try.prog W p (.float .f64 x) m rfl
  have H := Lib.hid h
  have HF := Lib.hid hf
  have HN := Lib.hid h.len
  have HS1 := Lib.hid hs1
  have HS2 := Lib.hid hs2
  clear h hf hs1 hs2
  have zA : (((m : Int) - (a : Int)) == 1) = false := by simp; omega
  have zA' : decide ((m : Int) - (a : Int) = 1) = false := decide_eq_false (by omega)
  have zB : (((b : Int) - (m : Int)) == 1) = false := by simp; omega
  have zB' : decide ((b : Int) - (m : Int) = 1) = false := decide_eq_false (by omega)
  obtain ⟨ab, eab⟩ : ∃ q, a + b = q := ⟨_, rfl⟩
  have zab : (a : Int) + (b : Int) = (ab : Int) := by omega
  have zmid : (ab : Int) / 2 = (mid : Int) := by omega
  obtain ⟨nn, enn⟩ : ∃ q, mid + m = q := ⟨_, rfl⟩
  have znn : (mid : Int) + (m : Int) = (nn : Int) := by omega
  obtain ⟨pp, epp⟩ : ∃ q, nn - 1 = q := ⟨_, rfl⟩
  have zpp : (nn : Int) - 1 = (pp : Int) := by omega
  have hm2 : a < mid ∧ mid < b ∧ nn ≤ mid + m ∧ mid + m ≤ nn ∧ pp + 1 ≤ nn ∧ nn ≤ pp + 1 ∧ 2 * mid ≤ a + b ∧ a + b ≤ 2 * mid + 1 := by omega
  obtain ⟨lo, elo⟩ : ∃ q, nn - b = q := ⟨_, rfl⟩
  have zlo : (nn : Int) - (b : Int) = (lo : Int) := by omega
  have hlo : a ≤ lo ∧ lo + b ≤ nn ∧ nn ≤ lo + b ∧ lo ≤ mid := by omega
  have dm : decide ((mid : Int) < (m : Int)) = true := decide_eq_true (by omega)
  have dmn : decide (mid < m) = true := decide_eq_true (by omega)
  clear elo
  clear eab epp hmd hmid hB enn
  go_enter Try.func34, Try.ntmps34
  go_wp2
  go_loopg [20, 21] (mid - lo) (fun q s1 s2 wx => ∃ i j : Nat, s1 = .int .i64 (i : Int) ∧ s2 = .int .i64 (j : Int) ∧ lo ≤ i ∧ i ≤ j ∧ j ≤ mid ∧ j ≤ i + q ∧ (∀ p, lo ≤ p → p < i → K (co d p) ≤ K (co d (nn - 1 - p))) ∧ (∀ p, j ≤ p → p < mid → K (co d (nn - 1 - p)) < K (co d p)) ∧ ∃ k, wx = w.drewN k)
  case atStart => exact ⟨lo, mid, rfl, rfl, Nat.le_refl _, by omega, Nat.le_refl _, by omega, fun p h1 h2 => absurd h2 (by omega), fun p h1 h2 => absurd h2 (by omega), 0, rfl⟩
  case round =>
    obtain ⟨i, j, rfl, rfl, hli, hij, hjh, hq, hv1, hv2, k, hwk⟩ := hrel
    have HW := Lib.hid hwk
    have HV1 := Lib.hid hv1
    have HV2 := Lib.hid hv2
    clear hwk hv1 hv2
    by_cases hlt : i < j
    · have hltz : (i : Int) < (j : Int) := by omega
      cases gk with
      | zero => omega
      | succ q =>
        obtain ⟨h, eh⟩ : ∃ q, (i + j) / 2 = q := ⟨_, rfl⟩
        obtain ⟨ij, eij⟩ : ∃ q, i + j = q := ⟨_, rfl⟩
        have zij : (i : Int) + (j : Int) = (ij : Int) := by omega
        have zh : (ij : Int) / 2 = (h : Int) := by omega
        obtain ⟨pc, epc⟩ : ∃ q, pp - h = q := ⟨_, rfl⟩
        have zpc : (pp : Int) - (h : Int) = (pc : Int) := by omega
        have hpc : pc + h + 1 ≤ nn ∧ nn ≤ pc + h + 1 := by omega
        obtain ⟨c1, _⟩ := H.out.cell (i := pc) (by omega)
        obtain ⟨c2, _⟩ := H.out.cell (i := h) (by omega)
        have c1' : wr.cell? ⟨g, pc, none⟩ = some (.float .f64 (co d pc)) := by rw [HW.out]; exact c1
        have c2' : wr.cell? ⟨g, h, none⟩ = some (.float .f64 (co d h)) := by rw [HW.out]; exact c2
        obtain ⟨z, hz, HCC⟩ := C (co d pc) (co d h) (HF.out pc) (HF.out h)
        have HC := Lib.hid HCC
        have HZ := Lib.hid hz
        clear c1 c2 hz HCC
        by_cases hneg : z < 0
        · have dz : decide (z < 0) = true := decide_eq_true hneg
          have HNG := Lib.hid hneg
          clear hneg
          go_wp2
          go_quiet (first | (go_at_call 27; exact quiet_hands (HC.out _)))
          go_wp2
          go_roundg q
          case measure => omega
          case rel => exact ⟨i, h, rfl, by first | rfl | go_num, hli, by omega, by omega, by omega, HV1.out, fun p h1 h2 => by have e := HZ.out.1 HNG.out; have e2 := HS1.out h p (by omega) h1 (by omega); have e3 := HS2.out (nn - 1 - p) pc (by omega) (by omega) (by omega); omega, k + nq, by rw [HW.out, World.drewN_drewN]⟩
        · have dz : decide (z < 0) = false := decide_eq_false hneg
          have HNG := Lib.hid hneg
          clear hneg
          go_wp2
          go_quiet (first | (go_at_call 27; exact quiet_hands (HC.out _)))
          go_wp2
          go_roundg q
          case measure => omega
          case rel => exact ⟨h + 1, j, by go_num, rfl, by omega, by omega, hjh, by omega, fun p h1 h2 => by have e : ¬ K (co d pc) < K (co d h) := fun hh => absurd (HZ.out.2 hh) (by have := HNG.out; omega); have e2 := HS1.out p h (by omega) (by omega) (by omega); have e3 := HS2.out pc (nn - 1 - p) (by omega) (by omega) (by omega); omega, HV2.out, k + nq, by rw [HW.out, World.drewN_drewN]⟩
    · obtain rfl : i = j := by omega
      have hltz : ¬ (i : Int) < (i : Int) := by omega
      have HO := Lib.hid (show Own wr base g n c d by rw [HW.out]; exact H.out)
      have HG := Lib.hid (show w.grownBy wr (some g) by rw [HW.out]; exact grown_drewN (grown_refl _ _) k)
      clear hq
      have HCUT := Lib.hid (show Cutp a m b mid i d from ⟨by omega, by omega, by omega, by omega, fun h1 h2 => by
          have h := HV1.out (i - 1) (by omega) (by omega)
          rwa [show nn - 1 - (i - 1) = mid + m - i by omega] at h, fun h1 h2 => by
          have h := HV2.out i (Nat.le_refl _) (by omega)
          rwa [show nn - 1 - i = mid + m - i - 1 by omega] at h⟩)
      obtain ⟨en, een⟩ : ∃ q, mid + m - i = q := ⟨_, rfl⟩
      have zen : (nn : Int) - (i : Int) = (en : Int) := by omega
      have EN := Lib.hid een
      have hem : m ≤ en ∧ mid ≤ en ∧ en ≤ b ∧ a ≤ i ∧ i ≤ m ∧ i ≤ mid ∧ en + i ≤ nn ∧ nn ≤ en + i := by omega
      clear een HV1 HV2 HW hli hjh hij
      rcases (show (i < m ∧ m < en) ∨ (i < m ∧ ¬ m < en) ∨ ¬ i < m by omega) with ⟨t1, t2⟩ | ⟨t1, t2⟩ | t1
      · have f1 : decide ((i : Int) < (m : Int)) = true := decide_eq_true (by omega)
        have f1n : decide (i < m) = true := decide_eq_true (by omega)
        have f2 : decide ((m : Int) < (en : Int)) = true := decide_eq_true (by omega)
        have f2n : decide (m < en) = true := decide_eq_true (by omega)
        have HCALL := Lib.hid (st_rot base g n c i m en cmpv d wr HO.out t1 t2 (by omega) hn)
        go_wp2_with fail
        refine HCALL.out.mono ?_
        rintro e w1 ⟨rfl, d1, ⟨hr1, hp1⟩, ho1, hg1⟩
        rw [← EN.out] at hr1
        have HROT := Lib.hid hr1
        have HP1 := Lib.hid (show PIn a b d d1 from hp1.mono (by omega) (by omega))
        have HO1 := Lib.hid ho1
        have HG1 := Lib.hid (grown_trans HG.out hg1)
        clear hr1 hp1 ho1 hg1
        obtain ⟨q1, q2, q3, q4, q5⟩ := HCUT.out.parts ham hmb HS1.out HS2.out HROT.out
        rw [EN.out] at q3 q4
        have HA1 := Lib.hid q1
        have HB1 := Lib.hid q2
        have HC3 := Lib.hid q3
        have HD3 := Lib.hid q4
        have HCR := Lib.hid q5
        clear q1 q2 q3 q4 q5
        rcases (show (a < i ∧ i < mid) ∨ (a < i ∧ ¬ i < mid) ∨ ¬ a < i by omega) with ⟨l1, l2⟩ | ⟨l1, l2⟩ | l1
        · have g1 : decide ((a : Int) < (i : Int)) = true := decide_eq_true (by omega)
          have g1n : decide (a < i) = true := decide_eq_true (by omega)
          have g2 : decide ((i : Int) < (mid : Int)) = true := decide_eq_true (by omega)
          have g2n : decide (i < mid) = true := decide_eq_true (by omega)
          have HCALL := Lib.hid (IH a i mid base g n c d1 w1 (by omega) l1 l2 (by omega) hn HO1.out (perm_f64 HF.out HP1.out.perm) HA1.out HB1.out)
          go_wp2_with fail
          refine HCALL.out.mono ?_
          rintro e w2 ⟨rfl, d2, ⟨hs2, hp2⟩, ho2, hg2⟩
          have HA3 := Lib.hid hs2
          have HP2 := Lib.hid hp2
          have HO2 := Lib.hid ho2
          have HG2 := Lib.hid (grown_trans HG1.out hg2)
          clear hs2 hp2 ho2 hg2
          rcases (show (mid < en ∧ en < b) ∨ (mid < en ∧ ¬ en < b) ∨ ¬ mid < en by omega) with ⟨r1, r2⟩ | ⟨r1, r2⟩ | r1
          · have e1 : decide ((mid : Int) < (en : Int)) = true := decide_eq_true (by omega)
            have e1n : decide (mid < en) = true := decide_eq_true (by omega)
            have e2 : decide ((en : Int) < (b : Int)) = true := decide_eq_true (by omega)
            have e2n : decide (en < b) = true := decide_eq_true (by omega)
            have HCALL := Lib.hid (IH mid en b base g n c d2 w2 (by omega) r1 r2 hbn hn HO2.out (perm_f64 HF.out (HP2.out.perm.trans HP1.out.perm)) (HC3.out.keep HP2.out (.inr (Nat.le_refl _))) (HD3.out.keep HP2.out (.inr (by omega))))
            go_wp2_with fail
            refine HCALL.out.mono ?_
            rintro e w3 ⟨rfl, d3, ⟨hs3, hp3⟩, ho3, hg3⟩
            have HB3 := Lib.hid hs3
            have HP3 := Lib.hid hp3
            have HO3 := Lib.hid ho3
            have HG3 := Lib.hid (grown_trans HG2.out hg3)
            clear hs3 hp3 ho3 hg3
            go_wp2
            go_end0
            exact ⟨rfl, d3, ⟨SIn.join (HA3.out.keep HP3.out (.inl (Nat.le_refl _))) HB3.out (Fl.cross_keep HP2.out HP3.out HCR.out), (HP1.out.trans (HP2.out.mono (Nat.le_refl _) (by omega))).trans (HP3.out.mono (by omega) (Nat.le_refl _))⟩, HO3.out, HG3.out⟩
          · have e1 : decide ((mid : Int) < (en : Int)) = true := decide_eq_true (by omega)
            have e1n : decide (mid < en) = true := decide_eq_true (by omega)
            have e2 : decide ((en : Int) < (b : Int)) = false := decide_eq_false (by omega)
            have e2n : decide (en < b) = false := decide_eq_false (by omega)
            have HB3 := Lib.hid (show SIn mid b d2 from (HC3.out.keep HP2.out (.inr (Nat.le_refl _))).sub (Nat.le_refl _) (by omega))
            have HP3 := Lib.hid (PIn.refl mid b d2)
            have HO3 := HO2
            have HG3 := HG2
            go_wp2
            go_end0
            exact ⟨rfl, d2, ⟨SIn.join (HA3.out.keep HP3.out (.inl (Nat.le_refl _))) HB3.out (Fl.cross_keep HP2.out HP3.out HCR.out), (HP1.out.trans (HP2.out.mono (Nat.le_refl _) (by omega))).trans (HP3.out.mono (by omega) (Nat.le_refl _))⟩, HO3.out, HG3.out⟩
          · have e1 : decide ((mid : Int) < (en : Int)) = false := decide_eq_false (by omega)
            have e1n : decide (mid < en) = false := decide_eq_false (by omega)
            have HB3 := Lib.hid (show SIn mid b d2 from (HD3.out.keep HP2.out (.inr (by omega))).sub (by omega) (Nat.le_refl _))
            have HP3 := Lib.hid (PIn.refl mid b d2)
            have HO3 := HO2
            have HG3 := HG2
            go_wp2
            go_end0
            exact ⟨rfl, d2, ⟨SIn.join (HA3.out.keep HP3.out (.inl (Nat.le_refl _))) HB3.out (Fl.cross_keep HP2.out HP3.out HCR.out), (HP1.out.trans (HP2.out.mono (Nat.le_refl _) (by omega))).trans (HP3.out.mono (by omega) (Nat.le_refl _))⟩, HO3.out, HG3.out⟩
        · have g1 : decide ((a : Int) < (i : Int)) = true := decide_eq_true (by omega)
          have g1n : decide (a < i) = true := decide_eq_true (by omega)
          have g2 : decide ((i : Int) < (mid : Int)) = false := decide_eq_false (by omega)
          have g2n : decide (i < mid) = false := decide_eq_false (by omega)
          have HA3 := Lib.hid (show SIn a mid d1 from HA1.out.sub (Nat.le_refl _) (by omega))
          have HP2 := Lib.hid (PIn.refl a mid d1)
          have HO2 := HO1
          have HG2 := HG1
          rcases (show (mid < en ∧ en < b) ∨ (mid < en ∧ ¬ en < b) ∨ ¬ mid < en by omega) with ⟨r1, r2⟩ | ⟨r1, r2⟩ | r1
          · have e1 : decide ((mid : Int) < (en : Int)) = true := decide_eq_true (by omega)
            have e1n : decide (mid < en) = true := decide_eq_true (by omega)
            have e2 : decide ((en : Int) < (b : Int)) = true := decide_eq_true (by omega)
            have e2n : decide (en < b) = true := decide_eq_true (by omega)
            have HCALL := Lib.hid (IH mid en b base g n c d1 w1 (by omega) r1 r2 hbn hn HO2.out (perm_f64 HF.out (HP2.out.perm.trans HP1.out.perm)) (HC3.out.keep HP2.out (.inr (Nat.le_refl _))) (HD3.out.keep HP2.out (.inr (by omega))))
            go_wp2_with fail
            refine HCALL.out.mono ?_
            rintro e w3 ⟨rfl, d3, ⟨hs3, hp3⟩, ho3, hg3⟩
            have HB3 := Lib.hid hs3
            have HP3 := Lib.hid hp3
            have HO3 := Lib.hid ho3
            have HG3 := Lib.hid (grown_trans HG2.out hg3)
            clear hs3 hp3 ho3 hg3
            go_wp2
            go_end0
            exact ⟨rfl, d3, ⟨SIn.join (HA3.out.keep HP3.out (.inl (Nat.le_refl _))) HB3.out (Fl.cross_keep HP2.out HP3.out HCR.out), (HP1.out.trans (HP2.out.mono (Nat.le_refl _) (by omega))).trans (HP3.out.mono (by omega) (Nat.le_refl _))⟩, HO3.out, HG3.out⟩
          · have e1 : decide ((mid : Int) < (en : Int)) = true := decide_eq_true (by omega)
            have e1n : decide (mid < en) = true := decide_eq_true (by omega)
            have e2 : decide ((en : Int) < (b : Int)) = false := decide_eq_false (by omega)
            have e2n : decide (en < b) = false := decide_eq_false (by omega)
            have HB3 := Lib.hid (show SIn mid b d1 from (HC3.out.keep HP2.out (.inr (Nat.le_refl _))).sub (Nat.le_refl _) (by omega))
            have HP3 := Lib.hid (PIn.refl mid b d1)
            have HO3 := HO2
            have HG3 := HG2
            go_wp2
            go_end0
            exact ⟨rfl, d1, ⟨SIn.join (HA3.out.keep HP3.out (.inl (Nat.le_refl _))) HB3.out (Fl.cross_keep HP2.out HP3.out HCR.out), (HP1.out.trans (HP2.out.mono (Nat.le_refl _) (by omega))).trans (HP3.out.mono (by omega) (Nat.le_refl _))⟩, HO3.out, HG3.out⟩
          · have e1 : decide ((mid : Int) < (en : Int)) = false := decide_eq_false (by omega)
            have e1n : decide (mid < en) = false := decide_eq_false (by omega)
            have HB3 := Lib.hid (show SIn mid b d1 from (HD3.out.keep HP2.out (.inr (by omega))).sub (by omega) (Nat.le_refl _))
            have HP3 := Lib.hid (PIn.refl mid b d1)
            have HO3 := HO2
            have HG3 := HG2
            go_wp2
            go_end0
            exact ⟨rfl, d1, ⟨SIn.join (HA3.out.keep HP3.out (.inl (Nat.le_refl _))) HB3.out (Fl.cross_keep HP2.out HP3.out HCR.out), (HP1.out.trans (HP2.out.mono (Nat.le_refl _) (by omega))).trans (HP3.out.mono (by omega) (Nat.le_refl _))⟩, HO3.out, HG3.out⟩
        · have g1 : decide ((a : Int) < (i : Int)) = false := decide_eq_false (by omega)
          have g1n : decide (a < i) = false := decide_eq_false (by omega)
          have HA3 := Lib.hid (show SIn a mid d1 from HB1.out.sub (by omega) (Nat.le_refl _))
          have HP2 := Lib.hid (PIn.refl a mid d1)
          have HO2 := HO1
          have HG2 := HG1
          rcases (show (mid < en ∧ en < b) ∨ (mid < en ∧ ¬ en < b) ∨ ¬ mid < en by omega) with ⟨r1, r2⟩ | ⟨r1, r2⟩ | r1
          · have e1 : decide ((mid : Int) < (en : Int)) = true := decide_eq_true (by omega)
            have e1n : decide (mid < en) = true := decide_eq_true (by omega)
            have e2 : decide ((en : Int) < (b : Int)) = true := decide_eq_true (by omega)
            have e2n : decide (en < b) = true := decide_eq_true (by omega)
            have HCALL := Lib.hid (IH mid en b base g n c d1 w1 (by omega) r1 r2 hbn hn HO2.out (perm_f64 HF.out (HP2.out.perm.trans HP1.out.perm)) (HC3.out.keep HP2.out (.inr (Nat.le_refl _))) (HD3.out.keep HP2.out (.inr (by omega))))
            go_wp2_with fail
            refine HCALL.out.mono ?_
            rintro e w3 ⟨rfl, d3, ⟨hs3, hp3⟩, ho3, hg3⟩
            have HB3 := Lib.hid hs3
            have HP3 := Lib.hid hp3
            have HO3 := Lib.hid ho3
            have HG3 := Lib.hid (grown_trans HG2.out hg3)
            clear hs3 hp3 ho3 hg3
            go_wp2
            go_end0
            exact ⟨rfl, d3, ⟨SIn.join (HA3.out.keep HP3.out (.inl (Nat.le_refl _))) HB3.out (Fl.cross_keep HP2.out HP3.out HCR.out), (HP1.out.trans (HP2.out.mono (Nat.le_refl _) (by omega))).trans (HP3.out.mono (by omega) (Nat.le_refl _))⟩, HO3.out, HG3.out⟩
          · have e1 : decide ((mid : Int) < (en : Int)) = true := decide_eq_true (by omega)
            have e1n : decide (mid < en) = true := decide_eq_true (by omega)
            have e2 : decide ((en : Int) < (b : Int)) = false := decide_eq_false (by omega)
            have e2n : decide (en < b) = false := decide_eq_false (by omega)
            have HB3 := Lib.hid (show SIn mid b d1 from (HC3.out.keep HP2.out (.inr (Nat.le_refl _))).sub (Nat.le_refl _) (by omega))
            have HP3 := Lib.hid (PIn.refl mid b d1)
            have HO3 := HO2
            have HG3 := HG2
            go_wp2
            go_end0
            exact ⟨rfl, d1, ⟨SIn.join (HA3.out.keep HP3.out (.inl (Nat.le_refl _))) HB3.out (Fl.cross_keep HP2.out HP3.out HCR.out), (HP1.out.trans (HP2.out.mono (Nat.le_refl _) (by omega))).trans (HP3.out.mono (by omega) (Nat.le_refl _))⟩, HO3.out, HG3.out⟩
          · have e1 : decide ((mid : Int) < (en : Int)) = false := decide_eq_false (by omega)
            have e1n : decide (mid < en) = false := decide_eq_false (by omega)
            have HB3 := Lib.hid (show SIn mid b d1 from (HD3.out.keep HP2.out (.inr (by omega))).sub (by omega) (Nat.le_refl _))
            have HP3 := Lib.hid (PIn.refl mid b d1)
            have HO3 := HO2
            have HG3 := HG2
            go_wp2
            go_end0
            exact ⟨rfl, d1, ⟨SIn.join (HA3.out.keep HP3.out (.inl (Nat.le_refl _))) HB3.out (Fl.cross_keep HP2.out HP3.out HCR.out), (HP1.out.trans (HP2.out.mono (Nat.le_refl _) (by omega))).trans (HP3.out.mono (by omega) (Nat.le_refl _))⟩, HO3.out, HG3.out⟩
      · have f1 : decide ((i : Int) < (m : Int)) = true := decide_eq_true (by omega)
        have f1n : decide (i < m) = true := decide_eq_true (by omega)
        have f2 : decide ((m : Int) < (en : Int)) = false := decide_eq_false (by omega)
        have f2n : decide (m < en) = false := decide_eq_false (by omega)
        have HROT := Lib.hid (show Rot i m (mid + m - i) d d from Fl.Rot.none d (.inr (by have := EN.out; omega)) (by omega) (by have := EN.out; omega))
        have HP1 := Lib.hid (PIn.refl a b d)
        have HO1 := HO
        have HG1 := HG
        obtain ⟨q1, q2, q3, q4, q5⟩ := HCUT.out.parts ham hmb HS1.out HS2.out HROT.out
        rw [EN.out] at q3 q4
        have HA1 := Lib.hid q1
        have HB1 := Lib.hid q2
        have HC3 := Lib.hid q3
        have HD3 := Lib.hid q4
        have HCR := Lib.hid q5
        clear q1 q2 q3 q4 q5
        rcases (show (a < i ∧ i < mid) ∨ (a < i ∧ ¬ i < mid) ∨ ¬ a < i by omega) with ⟨l1, l2⟩ | ⟨l1, l2⟩ | l1
        · have g1 : decide ((a : Int) < (i : Int)) = true := decide_eq_true (by omega)
          have g1n : decide (a < i) = true := decide_eq_true (by omega)
          have g2 : decide ((i : Int) < (mid : Int)) = true := decide_eq_true (by omega)
          have g2n : decide (i < mid) = true := decide_eq_true (by omega)
          have HCALL := Lib.hid (IH a i mid base g n c d wr (by omega) l1 l2 (by omega) hn HO1.out (perm_f64 HF.out HP1.out.perm) HA1.out HB1.out)
          go_wp2_with fail
          refine HCALL.out.mono ?_
          rintro e w2 ⟨rfl, d2, ⟨hs2, hp2⟩, ho2, hg2⟩
          have HA3 := Lib.hid hs2
          have HP2 := Lib.hid hp2
          have HO2 := Lib.hid ho2
          have HG2 := Lib.hid (grown_trans HG1.out hg2)
          clear hs2 hp2 ho2 hg2
          rcases (show (mid < en ∧ en < b) ∨ (mid < en ∧ ¬ en < b) ∨ ¬ mid < en by omega) with ⟨r1, r2⟩ | ⟨r1, r2⟩ | r1
          · have e1 : decide ((mid : Int) < (en : Int)) = true := decide_eq_true (by omega)
            have e1n : decide (mid < en) = true := decide_eq_true (by omega)
            have e2 : decide ((en : Int) < (b : Int)) = true := decide_eq_true (by omega)
            have e2n : decide (en < b) = true := decide_eq_true (by omega)
            have HCALL := Lib.hid (IH mid en b base g n c d2 w2 (by omega) r1 r2 hbn hn HO2.out (perm_f64 HF.out (HP2.out.perm.trans HP1.out.perm)) (HC3.out.keep HP2.out (.inr (Nat.le_refl _))) (HD3.out.keep HP2.out (.inr (by omega))))
            go_wp2_with fail
            refine HCALL.out.mono ?_
            rintro e w3 ⟨rfl, d3, ⟨hs3, hp3⟩, ho3, hg3⟩
            have HB3 := Lib.hid hs3
            have HP3 := Lib.hid hp3
            have HO3 := Lib.hid ho3
            have HG3 := Lib.hid (grown_trans HG2.out hg3)
            clear hs3 hp3 ho3 hg3
            go_wp2
            go_end0
            exact ⟨rfl, d3, ⟨SIn.join (HA3.out.keep HP3.out (.inl (Nat.le_refl _))) HB3.out (Fl.cross_keep HP2.out HP3.out HCR.out), (HP1.out.trans (HP2.out.mono (Nat.le_refl _) (by omega))).trans (HP3.out.mono (by omega) (Nat.le_refl _))⟩, HO3.out, HG3.out⟩
          · have e1 : decide ((mid : Int) < (en : Int)) = true := decide_eq_true (by omega)
            have e1n : decide (mid < en) = true := decide_eq_true (by omega)
            have e2 : decide ((en : Int) < (b : Int)) = false := decide_eq_false (by omega)
            have e2n : decide (en < b) = false := decide_eq_false (by omega)
            have HB3 := Lib.hid (show SIn mid b d2 from (HC3.out.keep HP2.out (.inr (Nat.le_refl _))).sub (Nat.le_refl _) (by omega))
            have HP3 := Lib.hid (PIn.refl mid b d2)
            have HO3 := HO2
            have HG3 := HG2
            go_wp2
            go_end0
            exact ⟨rfl, d2, ⟨SIn.join (HA3.out.keep HP3.out (.inl (Nat.le_refl _))) HB3.out (Fl.cross_keep HP2.out HP3.out HCR.out), (HP1.out.trans (HP2.out.mono (Nat.le_refl _) (by omega))).trans (HP3.out.mono (by omega) (Nat.le_refl _))⟩, HO3.out, HG3.out⟩
          · have e1 : decide ((mid : Int) < (en : Int)) = false := decide_eq_false (by omega)
            have e1n : decide (mid < en) = false := decide_eq_false (by omega)
            have HB3 := Lib.hid (show SIn mid b d2 from (HD3.out.keep HP2.out (.inr (by omega))).sub (by omega) (Nat.le_refl _))
            have HP3 := Lib.hid (PIn.refl mid b d2)
            have HO3 := HO2
            have HG3 := HG2
            go_wp2
            go_end0
            exact ⟨rfl, d2, ⟨SIn.join (HA3.out.keep HP3.out (.inl (Nat.le_refl _))) HB3.out (Fl.cross_keep HP2.out HP3.out HCR.out), (HP1.out.trans (HP2.out.mono (Nat.le_refl _) (by omega))).trans (HP3.out.mono (by omega) (Nat.le_refl _))⟩, HO3.out, HG3.out⟩
        · have g1 : decide ((a : Int) < (i : Int)) = true := decide_eq_true (by omega)
          have g1n : decide (a < i) = true := decide_eq_true (by omega)
          have g2 : decide ((i : Int) < (mid : Int)) = false := decide_eq_false (by omega)
          have g2n : decide (i < mid) = false := decide_eq_false (by omega)
          have HA3 := Lib.hid (show SIn a mid d from HA1.out.sub (Nat.le_refl _) (by omega))
          have HP2 := Lib.hid (PIn.refl a mid d)
          have HO2 := HO1
          have HG2 := HG1
          rcases (show (mid < en ∧ en < b) ∨ (mid < en ∧ ¬ en < b) ∨ ¬ mid < en by omega) with ⟨r1, r2⟩ | ⟨r1, r2⟩ | r1
          · have e1 : decide ((mid : Int) < (en : Int)) = true := decide_eq_true (by omega)
            have e1n : decide (mid < en) = true := decide_eq_true (by omega)
            have e2 : decide ((en : Int) < (b : Int)) = true := decide_eq_true (by omega)
            have e2n : decide (en < b) = true := decide_eq_true (by omega)
            have HCALL := Lib.hid (IH mid en b base g n c d wr (by omega) r1 r2 hbn hn HO2.out (perm_f64 HF.out (HP2.out.perm.trans HP1.out.perm)) (HC3.out.keep HP2.out (.inr (Nat.le_refl _))) (HD3.out.keep HP2.out (.inr (by omega))))
            go_wp2_with fail
            refine HCALL.out.mono ?_
            rintro e w3 ⟨rfl, d3, ⟨hs3, hp3⟩, ho3, hg3⟩
            have HB3 := Lib.hid hs3
            have HP3 := Lib.hid hp3
            have HO3 := Lib.hid ho3
            have HG3 := Lib.hid (grown_trans HG2.out hg3)
            clear hs3 hp3 ho3 hg3
            go_wp2
            go_end0
            exact ⟨rfl, d3, ⟨SIn.join (HA3.out.keep HP3.out (.inl (Nat.le_refl _))) HB3.out (Fl.cross_keep HP2.out HP3.out HCR.out), (HP1.out.trans (HP2.out.mono (Nat.le_refl _) (by omega))).trans (HP3.out.mono (by omega) (Nat.le_refl _))⟩, HO3.out, HG3.out⟩
          · have e1 : decide ((mid : Int) < (en : Int)) = true := decide_eq_true (by omega)
            have e1n : decide (mid < en) = true := decide_eq_true (by omega)
            have e2 : decide ((en : Int) < (b : Int)) = false := decide_eq_false (by omega)
            have e2n : decide (en < b) = false := decide_eq_false (by omega)
            have HB3 := Lib.hid (show SIn mid b d from (HC3.out.keep HP2.out (.inr (Nat.le_refl _))).sub (Nat.le_refl _) (by omega))
            have HP3 := Lib.hid (PIn.refl mid b d)
            have HO3 := HO2
            have HG3 := HG2
            go_wp2
            go_end0
            exact ⟨rfl, d, ⟨SIn.join (HA3.out.keep HP3.out (.inl (Nat.le_refl _))) HB3.out (Fl.cross_keep HP2.out HP3.out HCR.out), (HP1.out.trans (HP2.out.mono (Nat.le_refl _) (by omega))).trans (HP3.out.mono (by omega) (Nat.le_refl _))⟩, HO3.out, HG3.out⟩
          · have e1 : decide ((mid : Int) < (en : Int)) = false := decide_eq_false (by omega)
            have e1n : decide (mid < en) = false := decide_eq_false (by omega)
            have HB3 := Lib.hid (show SIn mid b d from (HD3.out.keep HP2.out (.inr (by omega))).sub (by omega) (Nat.le_refl _))
            have HP3 := Lib.hid (PIn.refl mid b d)
            have HO3 := HO2
            have HG3 := HG2
            go_wp2
            go_end0
            exact ⟨rfl, d, ⟨SIn.join (HA3.out.keep HP3.out (.inl (Nat.le_refl _))) HB3.out (Fl.cross_keep HP2.out HP3.out HCR.out), (HP1.out.trans (HP2.out.mono (Nat.le_refl _) (by omega))).trans (HP3.out.mono (by omega) (Nat.le_refl _))⟩, HO3.out, HG3.out⟩
        · have g1 : decide ((a : Int) < (i : Int)) = false := decide_eq_false (by omega)
          have g1n : decide (a < i) = false := decide_eq_false (by omega)
          have HA3 := Lib.hid (show SIn a mid d from HB1.out.sub (by omega) (Nat.le_refl _))
          have HP2 := Lib.hid (PIn.refl a mid d)
          have HO2 := HO1
          have HG2 := HG1
          rcases (show (mid < en ∧ en < b) ∨ (mid < en ∧ ¬ en < b) ∨ ¬ mid < en by omega) with ⟨r1, r2⟩ | ⟨r1, r2⟩ | r1
          · have e1 : decide ((mid : Int) < (en : Int)) = true := decide_eq_true (by omega)
            have e1n : decide (mid < en) = true := decide_eq_true (by omega)
            have e2 : decide ((en : Int) < (b : Int)) = true := decide_eq_true (by omega)
            have e2n : decide (en < b) = true := decide_eq_true (by omega)
            have HCALL := Lib.hid (IH mid en b base g n c d wr (by omega) r1 r2 hbn hn HO2.out (perm_f64 HF.out (HP2.out.perm.trans HP1.out.perm)) (HC3.out.keep HP2.out (.inr (Nat.le_refl _))) (HD3.out.keep HP2.out (.inr (by omega))))
            go_wp2_with fail
            refine HCALL.out.mono ?_
            rintro e w3 ⟨rfl, d3, ⟨hs3, hp3⟩, ho3, hg3⟩
            have HB3 := Lib.hid hs3
            have HP3 := Lib.hid hp3
            have HO3 := Lib.hid ho3
            have HG3 := Lib.hid (grown_trans HG2.out hg3)
            clear hs3 hp3 ho3 hg3
            go_wp2
            go_end0
            exact ⟨rfl, d3, ⟨SIn.join (HA3.out.keep HP3.out (.inl (Nat.le_refl _))) HB3.out (Fl.cross_keep HP2.out HP3.out HCR.out), (HP1.out.trans (HP2.out.mono (Nat.le_refl _) (by omega))).trans (HP3.out.mono (by omega) (Nat.le_refl _))⟩, HO3.out, HG3.out⟩
          · have e1 : decide ((mid : Int) < (en : Int)) = true := decide_eq_true (by omega)
            have e1n : decide (mid < en) = true := decide_eq_true (by omega)
            have e2 : decide ((en : Int) < (b : Int)) = false := decide_eq_false (by omega)
            have e2n : decide (en < b) = false := decide_eq_false (by omega)
            have HB3 := Lib.hid (show SIn mid b d from (HC3.out.keep HP2.out (.inr (Nat.le_refl _))).sub (Nat.le_refl _) (by omega))
            have HP3 := Lib.hid (PIn.refl mid b d)
            have HO3 := HO2
            have HG3 := HG2
            go_wp2
            go_end0
            exact ⟨rfl, d, ⟨SIn.join (HA3.out.keep HP3.out (.inl (Nat.le_refl _))) HB3.out (Fl.cross_keep HP2.out HP3.out HCR.out), (HP1.out.trans (HP2.out.mono (Nat.le_refl _) (by omega))).trans (HP3.out.mono (by omega) (Nat.le_refl _))⟩, HO3.out, HG3.out⟩
          · have e1 : decide ((mid : Int) < (en : Int)) = false := decide_eq_false (by omega)
            have e1n : decide (mid < en) = false := decide_eq_false (by omega)
            have HB3 := Lib.hid (show SIn mid b d from (HD3.out.keep HP2.out (.inr (by omega))).sub (by omega) (Nat.le_refl _))
            have HP3 := Lib.hid (PIn.refl mid b d)
            have HO3 := HO2
            have HG3 := HG2
            go_wp2
            go_end0
            exact ⟨rfl, d, ⟨SIn.join (HA3.out.keep HP3.out (.inl (Nat.le_refl _))) HB3.out (Fl.cross_keep HP2.out HP3.out HCR.out), (HP1.out.trans (HP2.out.mono (Nat.le_refl _) (by omega))).trans (HP3.out.mono (by omega) (Nat.le_refl _))⟩, HO3.out, HG3.out⟩
      · have f1 : decide ((i : Int) < (m : Int)) = false := decide_eq_false (by omega)
        have f1n : decide (i < m) = false := decide_eq_false (by omega)
        have HROT := Lib.hid (show Rot i m (mid + m - i) d d from Fl.Rot.none d (.inl (by omega)) (by omega) (by have := EN.out; omega))
        have HP1 := Lib.hid (PIn.refl a b d)
        have HO1 := HO
        have HG1 := HG
        obtain ⟨q1, q2, q3, q4, q5⟩ := HCUT.out.parts ham hmb HS1.out HS2.out HROT.out
        rw [EN.out] at q3 q4
        have HA1 := Lib.hid q1
        have HB1 := Lib.hid q2
        have HC3 := Lib.hid q3
        have HD3 := Lib.hid q4
        have HCR := Lib.hid q5
        clear q1 q2 q3 q4 q5
        rcases (show (a < i ∧ i < mid) ∨ (a < i ∧ ¬ i < mid) ∨ ¬ a < i by omega) with ⟨l1, l2⟩ | ⟨l1, l2⟩ | l1
        · have g1 : decide ((a : Int) < (i : Int)) = true := decide_eq_true (by omega)
          have g1n : decide (a < i) = true := decide_eq_true (by omega)
          have g2 : decide ((i : Int) < (mid : Int)) = true := decide_eq_true (by omega)
          have g2n : decide (i < mid) = true := decide_eq_true (by omega)
          have HCALL := Lib.hid (IH a i mid base g n c d wr (by omega) l1 l2 (by omega) hn HO1.out (perm_f64 HF.out HP1.out.perm) HA1.out HB1.out)
          go_wp2_with fail
          refine HCALL.out.mono ?_
          rintro e w2 ⟨rfl, d2, ⟨hs2, hp2⟩, ho2, hg2⟩
          have HA3 := Lib.hid hs2
          have HP2 := Lib.hid hp2
          have HO2 := Lib.hid ho2
          have HG2 := Lib.hid (grown_trans HG1.out hg2)
          clear hs2 hp2 ho2 hg2
          rcases (show (mid < en ∧ en < b) ∨ (mid < en ∧ ¬ en < b) ∨ ¬ mid < en by omega) with ⟨r1, r2⟩ | ⟨r1, r2⟩ | r1
          · have e1 : decide ((mid : Int) < (en : Int)) = true := decide_eq_true (by omega)
            have e1n : decide (mid < en) = true := decide_eq_true (by omega)
            have e2 : decide ((en : Int) < (b : Int)) = true := decide_eq_true (by omega)
            have e2n : decide (en < b) = true := decide_eq_true (by omega)
            have HCALL := Lib.hid (IH mid en b base g n c d2 w2 (by omega) r1 r2 hbn hn HO2.out (perm_f64 HF.out (HP2.out.perm.trans HP1.out.perm)) (HC3.out.keep HP2.out (.inr (Nat.le_refl _))) (HD3.out.keep HP2.out (.inr (by omega))))
            go_wp2_with fail
            refine HCALL.out.mono ?_
            rintro e w3 ⟨rfl, d3, ⟨hs3, hp3⟩, ho3, hg3⟩
            have HB3 := Lib.hid hs3
            have HP3 := Lib.hid hp3
            have HO3 := Lib.hid ho3
            have HG3 := Lib.hid (grown_trans HG2.out hg3)
            clear hs3 hp3 ho3 hg3
            go_wp2
            go_end0
            exact ⟨rfl, d3, ⟨SIn.join (HA3.out.keep HP3.out (.inl (Nat.le_refl _))) HB3.out (Fl.cross_keep HP2.out HP3.out HCR.out), (HP1.out.trans (HP2.out.mono (Nat.le_refl _) (by omega))).trans (HP3.out.mono (by omega) (Nat.le_refl _))⟩, HO3.out, HG3.out⟩
          · have e1 : decide ((mid : Int) < (en : Int)) = true := decide_eq_true (by omega)
            have e1n : decide (mid < en) = true := decide_eq_true (by omega)
            have e2 : decide ((en : Int) < (b : Int)) = false := decide_eq_false (by omega)
            have e2n : decide (en < b) = false := decide_eq_false (by omega)
            have HB3 := Lib.hid (show SIn mid b d2 from (HC3.out.keep HP2.out (.inr (Nat.le_refl _))).sub (Nat.le_refl _) (by omega))
            have HP3 := Lib.hid (PIn.refl mid b d2)
            have HO3 := HO2
            have HG3 := HG2
            go_wp2
            go_end0
            exact ⟨rfl, d2, ⟨SIn.join (HA3.out.keep HP3.out (.inl (Nat.le_refl _))) HB3.out (Fl.cross_keep HP2.out HP3.out HCR.out), (HP1.out.trans (HP2.out.mono (Nat.le_refl _) (by omega))).trans (HP3.out.mono (by omega) (Nat.le_refl _))⟩, HO3.out, HG3.out⟩
          · have e1 : decide ((mid : Int) < (en : Int)) = false := decide_eq_false (by omega)
            have e1n : decide (mid < en) = false := decide_eq_false (by omega)
            have HB3 := Lib.hid (show SIn mid b d2 from (HD3.out.keep HP2.out (.inr (by omega))).sub (by omega) (Nat.le_refl _))
            have HP3 := Lib.hid (PIn.refl mid b d2)
            have HO3 := HO2
            have HG3 := HG2
            go_wp2
            go_end0
            exact ⟨rfl, d2, ⟨SIn.join (HA3.out.keep HP3.out (.inl (Nat.le_refl _))) HB3.out (Fl.cross_keep HP2.out HP3.out HCR.out), (HP1.out.trans (HP2.out.mono (Nat.le_refl _) (by omega))).trans (HP3.out.mono (by omega) (Nat.le_refl _))⟩, HO3.out, HG3.out⟩
        · have g1 : decide ((a : Int) < (i : Int)) = true := decide_eq_true (by omega)
          have g1n : decide (a < i) = true := decide_eq_true (by omega)
          have g2 : decide ((i : Int) < (mid : Int)) = false := decide_eq_false (by omega)
          have g2n : decide (i < mid) = false := decide_eq_false (by omega)
          have HA3 := Lib.hid (show SIn a mid d from HA1.out.sub (Nat.le_refl _) (by omega))
          have HP2 := Lib.hid (PIn.refl a mid d)
          have HO2 := HO1
          have HG2 := HG1
          rcases (show (mid < en ∧ en < b) ∨ (mid < en ∧ ¬ en < b) ∨ ¬ mid < en by omega) with ⟨r1, r2⟩ | ⟨r1, r2⟩ | r1
          · have e1 : decide ((mid : Int) < (en : Int)) = true := decide_eq_true (by omega)
            have e1n : decide (mid < en) = true := decide_eq_true (by omega)
            have e2 : decide ((en : Int) < (b : Int)) = true := decide_eq_true (by omega)
            have e2n : decide (en < b) = true := decide_eq_true (by omega)
            have HCALL := Lib.hid (IH mid en b base g n c d wr (by omega) r1 r2 hbn hn HO2.out (perm_f64 HF.out (HP2.out.perm.trans HP1.out.perm)) (HC3.out.keep HP2.out (.inr (Nat.le_refl _))) (HD3.out.keep HP2.out (.inr (by omega))))
            go_wp2_with fail
            refine HCALL.out.mono ?_
            rintro e w3 ⟨rfl, d3, ⟨hs3, hp3⟩, ho3, hg3⟩
            have HB3 := Lib.hid hs3
            have HP3 := Lib.hid hp3
            have HO3 := Lib.hid ho3
            have HG3 := Lib.hid (grown_trans HG2.out hg3)
            clear hs3 hp3 ho3 hg3
            go_wp2
            go_end0
            exact ⟨rfl, d3, ⟨SIn.join (HA3.out.keep HP3.out (.inl (Nat.le_refl _))) HB3.out (Fl.cross_keep HP2.out HP3.out HCR.out), (HP1.out.trans (HP2.out.mono (Nat.le_refl _) (by omega))).trans (HP3.out.mono (by omega) (Nat.le_refl _))⟩, HO3.out, HG3.out⟩
          · have e1 : decide ((mid : Int) < (en : Int)) = true := decide_eq_true (by omega)
            have e1n : decide (mid < en) = true := decide_eq_true (by omega)
            have e2 : decide ((en : Int) < (b : Int)) = false := decide_eq_false (by omega)
            have e2n : decide (en < b) = false := decide_eq_false (by omega)
            have HB3 := Lib.hid (show SIn mid b d from (HC3.out.keep HP2.out (.inr (Nat.le_refl _))).sub (Nat.le_refl _) (by omega))
            have HP3 := Lib.hid (PIn.refl mid b d)
            have HO3 := HO2
            have HG3 := HG2
            go_wp2
            go_end0
            exact ⟨rfl, d, ⟨SIn.join (HA3.out.keep HP3.out (.inl (Nat.le_refl _))) HB3.out (Fl.cross_keep HP2.out HP3.out HCR.out), (HP1.out.trans (HP2.out.mono (Nat.le_refl _) (by omega))).trans (HP3.out.mono (by omega) (Nat.le_refl _))⟩, HO3.out, HG3.out⟩
          · have e1 : decide ((mid : Int) < (en : Int)) = false := decide_eq_false (by omega)
            have e1n : decide (mid < en) = false := decide_eq_false (by omega)
            have HB3 := Lib.hid (show SIn mid b d from (HD3.out.keep HP2.out (.inr (by omega))).sub (by omega) (Nat.le_refl _))
            have HP3 := Lib.hid (PIn.refl mid b d)
            have HO3 := HO2
            have HG3 := HG2
            go_wp2
            go_end0
            exact ⟨rfl, d, ⟨SIn.join (HA3.out.keep HP3.out (.inl (Nat.le_refl _))) HB3.out (Fl.cross_keep HP2.out HP3.out HCR.out), (HP1.out.trans (HP2.out.mono (Nat.le_refl _) (by omega))).trans (HP3.out.mono (by omega) (Nat.le_refl _))⟩, HO3.out, HG3.out⟩
        · have g1 : decide ((a : Int) < (i : Int)) = false := decide_eq_false (by omega)
          have g1n : decide (a < i) = false := decide_eq_false (by omega)
          have HA3 := Lib.hid (show SIn a mid d from HB1.out.sub (by omega) (Nat.le_refl _))
          have HP2 := Lib.hid (PIn.refl a mid d)
          have HO2 := HO1
          have HG2 := HG1
          rcases (show (mid < en ∧ en < b) ∨ (mid < en ∧ ¬ en < b) ∨ ¬ mid < en by omega) with ⟨r1, r2⟩ | ⟨r1, r2⟩ | r1
          · have e1 : decide ((mid : Int) < (en : Int)) = true := decide_eq_true (by omega)
            have e1n : decide (mid < en) = true := decide_eq_true (by omega)
            have e2 : decide ((en : Int) < (b : Int)) = true := decide_eq_true (by omega)
            have e2n : decide (en < b) = true := decide_eq_true (by omega)
            have HCALL := Lib.hid (IH mid en b base g n c d wr (by omega) r1 r2 hbn hn HO2.out (perm_f64 HF.out (HP2.out.perm.trans HP1.out.perm)) (HC3.out.keep HP2.out (.inr (Nat.le_refl _))) (HD3.out.keep HP2.out (.inr (by omega))))
            go_wp2_with fail
            refine HCALL.out.mono ?_
            rintro e w3 ⟨rfl, d3, ⟨hs3, hp3⟩, ho3, hg3⟩
            have HB3 := Lib.hid hs3
            have HP3 := Lib.hid hp3
            have HO3 := Lib.hid ho3
            have HG3 := Lib.hid (grown_trans HG2.out hg3)
            clear hs3 hp3 ho3 hg3
            go_wp2
            go_end0
            exact ⟨rfl, d3, ⟨SIn.join (HA3.out.keep HP3.out (.inl (Nat.le_refl _))) HB3.out (Fl.cross_keep HP2.out HP3.out HCR.out), (HP1.out.trans (HP2.out.mono (Nat.le_refl _) (by omega))).trans (HP3.out.mono (by omega) (Nat.le_refl _))⟩, HO3.out, HG3.out⟩
          · have e1 : decide ((mid : Int) < (en : Int)) = true := decide_eq_true (by omega)
            have e1n : decide (mid < en) = true := decide_eq_true (by omega)
            have e2 : decide ((en : Int) < (b : Int)) = false := decide_eq_false (by omega)
            have e2n : decide (en < b) = false := decide_eq_false (by omega)
            have HB3 := Lib.hid (show SIn mid b d from (HC3.out.keep HP2.out (.inr (Nat.le_refl _))).sub (Nat.le_refl _) (by omega))
            have HP3 := Lib.hid (PIn.refl mid b d)
            have HO3 := HO2
            have HG3 := HG2
            go_wp2
            go_end0
            exact ⟨rfl, d, ⟨SIn.join (HA3.out.keep HP3.out (.inl (Nat.le_refl _))) HB3.out (Fl.cross_keep HP2.out HP3.out HCR.out), (HP1.out.trans (HP2.out.mono (Nat.le_refl _) (by omega))).trans (HP3.out.mono (by omega) (Nat.le_refl _))⟩, HO3.out, HG3.out⟩
          · have e1 : decide ((mid : Int) < (en : Int)) = false := decide_eq_false (by omega)
            have e1n : decide (mid < en) = false := decide_eq_false (by omega)
            have HB3 := Lib.hid (show SIn mid b d from (HD3.out.keep HP2.out (.inr (by omega))).sub (by omega) (Nat.le_refl _))
            have HP3 := Lib.hid (PIn.refl mid b d)
            have HO3 := HO2
            have HG3 := HG2
            go_wp2
            go_end0
            exact ⟨rfl, d, ⟨SIn.join (HA3.out.keep HP3.out (.inl (Nat.le_refl _))) HB3.out (Fl.cross_keep HP2.out HP3.out HCR.out), (HP1.out.trans (HP2.out.mono (Nat.le_refl _) (by omega))).trans (HP3.out.mono (by omega) (Nat.le_refl _))⟩, HO3.out, HG3.out⟩
end Go.Proofs.Ytbgpgdbheajekaa

/-
  The library's symMerge: the third part, where the middle lies not left of the border. Conditions: no more than 2^16 rates.
-/
namespace Go.Proofs.Ytbgpgdbheajekaa
open Go.RowKit
open Pol (co)
open Fl (K sw swr PIn SIn Rot Ins Cutp)

set_option maxHeartbeats 12800000 in
set_option maxRecDepth 100000 in
theorem mrg_c2 (C : CmpOk) (N : Nat) (IH : MrgS N) (a m b mid base g n c : Nat) (d : List Nat) (w : World) (ham : a < m) (hmb : m < b) (hbn : b ≤ n) (hn : n ≤ 65536) (h : Own w base g n c d) (hf : F64 d) (hs1 : SIn a m d) (hs2 : SIn m b d) (hN : b - a ≤ N + 1) (_hA : m ≠ a + 1) (hB : b ≠ m + 1) (hmd : (a + b) / 2 = mid) (hmid : ¬ mid < m) :
    Calls Try.prog 34 #[.slice (some ⟨g, 0, none⟩) n c, .int .i64 (a : Int), .int .i64 (m : Int), .int .i64 (b : Int), cmpv] w (Lves (fun d' => SIn a b d' ∧ PIn a b d d') base g n c w) := by
  have hst := fun W p m x => run_store Try.prog W p (.float .f64 x) m rfl
  have H := Lib.hid h
  have HF := Lib.hid hf
  have HN := Lib.hid h.len
  have HS1 := Lib.hid hs1
  have HS2 := Lib.hid hs2
  clear h hf hs1 hs2
  have zA : (((m : Int) - (a : Int)) == 1) = false := by simp; omega
  have zA' : decide ((m : Int) - (a : Int) = 1) = false := decide_eq_false (by omega)
  have zB : (((b : Int) - (m : Int)) == 1) = false := by simp; omega
  have zB' : decide ((b : Int) - (m : Int) = 1) = false := decide_eq_false (by omega)
  obtain ⟨ab, eab⟩ : ∃ q, a + b = q := ⟨_, rfl⟩
  have zab : (a : Int) + (b : Int) = (ab : Int) := by omega
  have zmid : (ab : Int) / 2 = (mid : Int) := by omega
  obtain ⟨nn, enn⟩ : ∃ q, mid + m = q := ⟨_, rfl⟩
  have znn : (mid : Int) + (m : Int) = (nn : Int) := by omega
  obtain ⟨pp, epp⟩ : ∃ q, nn - 1 = q := ⟨_, rfl⟩
  have zpp : (nn : Int) - 1 = (pp : Int) := by omega
  have hm2 : a < mid ∧ mid < b ∧ nn ≤ mid + m ∧ mid + m ≤ nn ∧ pp + 1 ≤ nn ∧ nn ≤ pp + 1 ∧ 2 * mid ≤ a + b ∧ a + b ≤ 2 * mid + 1 := by omega
  have dm : decide ((mid : Int) < (m : Int)) = false := decide_eq_false (by omega)
  have dmn : decide (mid < m) = false := decide_eq_false (by omega)
  have hmm : m ≤ mid := by omega
  clear eab epp hmd hmid hB enn
  go_enter Try.func34, Try.ntmps34
  go_wp2
  go_loopg [20, 21] (m - a) (fun q s1 s2 wx => ∃ i j : Nat, s1 = .int .i64 (i : Int) ∧ s2 = .int .i64 (j : Int) ∧ a ≤ i ∧ i ≤ j ∧ j ≤ m ∧ j ≤ i + q ∧ (∀ p, a ≤ p → p < i → K (co d p) ≤ K (co d (nn - 1 - p))) ∧ (∀ p, j ≤ p → p < m → K (co d (nn - 1 - p)) < K (co d p)) ∧ ∃ k, wx = w.drewN k)
  case atStart => exact ⟨a, m, rfl, rfl, Nat.le_refl _, by omega, Nat.le_refl _, by omega, fun p h1 h2 => absurd h2 (by omega), fun p h1 h2 => absurd h2 (by omega), 0, rfl⟩
  case round =>
    obtain ⟨i, j, rfl, rfl, hli, hij, hjh, hq, hv1, hv2, k, hwk⟩ := hrel
    have HW := Lib.hid hwk
    have HV1 := Lib.hid hv1
    have HV2 := Lib.hid hv2
    clear hwk hv1 hv2
    by_cases hlt : i < j
    · have hltz : (i : Int) < (j : Int) := by omega
      cases gk with
      | zero => omega
      | succ q =>
        obtain ⟨h, eh⟩ : ∃ q, (i + j) / 2 = q := ⟨_, rfl⟩
        obtain ⟨ij, eij⟩ : ∃ q, i + j = q := ⟨_, rfl⟩
        have zij : (i : Int) + (j : Int) = (ij : Int) := by omega
        have zh : (ij : Int) / 2 = (h : Int) := by omega
        obtain ⟨pc, epc⟩ : ∃ q, pp - h = q := ⟨_, rfl⟩
        have zpc : (pp : Int) - (h : Int) = (pc : Int) := by omega
        have hpc : pc + h + 1 ≤ nn ∧ nn ≤ pc + h + 1 := by omega
        obtain ⟨c1, _⟩ := H.out.cell (i := pc) (by omega)
        obtain ⟨c2, _⟩ := H.out.cell (i := h) (by omega)
        have c1' : wr.cell? ⟨g, pc, none⟩ = some (.float .f64 (co d pc)) := by rw [HW.out]; exact c1
        have c2' : wr.cell? ⟨g, h, none⟩ = some (.float .f64 (co d h)) := by rw [HW.out]; exact c2
        obtain ⟨z, hz, HCC⟩ := C (co d pc) (co d h) (HF.out pc) (HF.out h)
        have HC := Lib.hid HCC
        have HZ := Lib.hid hz
        clear c1 c2 hz HCC
        by_cases hneg : z < 0
        · have dz : decide (z < 0) = true := decide_eq_true hneg
          have HNG := Lib.hid hneg
          clear hneg
          go_wp2
          go_quiet (first | (go_at_call 27; exact quiet_hands (HC.out _)))
          go_wp2
          go_roundg q
          case measure => omega
          case rel => exact ⟨i, h, rfl, by first | rfl | go_num, hli, by omega, by omega, by omega, HV1.out, fun p h1 h2 => by have e := HZ.out.1 HNG.out; have e2 := HS1.out h p (by omega) h1 (by omega); have e3 := HS2.out (nn - 1 - p) pc (by omega) (by omega) (by omega); omega, k + nq, by rw [HW.out, World.drewN_drewN]⟩
        · have dz : decide (z < 0) = false := decide_eq_false hneg
          have HNG := Lib.hid hneg
          clear hneg
          go_wp2
          go_quiet (first | (go_at_call 27; exact quiet_hands (HC.out _)))
          go_wp2
          go_roundg q
          case measure => omega
          case rel => exact ⟨h + 1, j, by go_num, rfl, by omega, by omega, hjh, by omega, fun p h1 h2 => by have e : ¬ K (co d pc) < K (co d h) := fun hh => absurd (HZ.out.2 hh) (by have := HNG.out; omega); have e2 := HS1.out p h (by omega) (by omega) (by omega); have e3 := HS2.out pc (nn - 1 - p) (by omega) (by omega) (by omega); omega, HV2.out, k + nq, by rw [HW.out, World.drewN_drewN]⟩
    · obtain rfl : i = j := by omega
      have hltz : ¬ (i : Int) < (i : Int) := by omega
      have HO := Lib.hid (show Own wr base g n c d by rw [HW.out]; exact H.out)
      have HG := Lib.hid (show w.grownBy wr (some g) by rw [HW.out]; exact grown_drewN (grown_refl _ _) k)
      clear hq
      have HCUT := Lib.hid (show Cutp a m b mid i d from ⟨by omega, by omega, by omega, by omega, fun h1 h2 => by
          have h := HV1.out (i - 1) (by omega) (by omega)
          rwa [show nn - 1 - (i - 1) = mid + m - i by omega] at h, fun h1 h2 => by
          have h := HV2.out i (Nat.le_refl _) (by omega)
          rwa [show nn - 1 - i = mid + m - i - 1 by omega] at h⟩)
      obtain ⟨en, een⟩ : ∃ q, mid + m - i = q := ⟨_, rfl⟩
      have zen : (nn : Int) - (i : Int) = (en : Int) := by omega
      have EN := Lib.hid een
      have hem : m ≤ en ∧ mid ≤ en ∧ en ≤ b ∧ a ≤ i ∧ i ≤ m ∧ i ≤ mid ∧ en + i ≤ nn ∧ nn ≤ en + i := by omega
      clear een HV1 HV2 HW hli hjh hij
      rcases (show (i < m ∧ m < en) ∨ (i < m ∧ ¬ m < en) ∨ ¬ i < m by omega) with ⟨t1, t2⟩ | ⟨t1, t2⟩ | t1
      · have f1 : decide ((i : Int) < (m : Int)) = true := decide_eq_true (by omega)
        have f1n : decide (i < m) = true := decide_eq_true (by omega)
        have f2 : decide ((m : Int) < (en : Int)) = true := decide_eq_true (by omega)
        have f2n : decide (m < en) = true := decide_eq_true (by omega)
        have HCALL := Lib.hid (st_rot base g n c i m en cmpv d wr HO.out t1 t2 (by omega) hn)
        go_wp2_with fail
        refine HCALL.out.mono ?_
        rintro e w1 ⟨rfl, d1, ⟨hr1, hp1⟩, ho1, hg1⟩
        rw [← EN.out] at hr1
        have HROT := Lib.hid hr1
        have HP1 := Lib.hid (show PIn a b d d1 from hp1.mono (by omega) (by omega))
        have HO1 := Lib.hid ho1
        have HG1 := Lib.hid (grown_trans HG.out hg1)
        clear hr1 hp1 ho1 hg1
        obtain ⟨q1, q2, q3, q4, q5⟩ := HCUT.out.parts ham hmb HS1.out HS2.out HROT.out
        rw [EN.out] at q3 q4
        have HA1 := Lib.hid q1
        have HB1 := Lib.hid q2
        have HC3 := Lib.hid q3
        have HD3 := Lib.hid q4
        have HCR := Lib.hid q5
        clear q1 q2 q3 q4 q5
        rcases (show (a < i ∧ i < mid) ∨ (a < i ∧ ¬ i < mid) ∨ ¬ a < i by omega) with ⟨l1, l2⟩ | ⟨l1, l2⟩ | l1
        · have g1 : decide ((a : Int) < (i : Int)) = true := decide_eq_true (by omega)
          have g1n : decide (a < i) = true := decide_eq_true (by omega)
          have g2 : decide ((i : Int) < (mid : Int)) = true := decide_eq_true (by omega)
          have g2n : decide (i < mid) = true := decide_eq_true (by omega)
          have HCALL := Lib.hid (IH a i mid base g n c d1 w1 (by omega) l1 l2 (by omega) hn HO1.out (perm_f64 HF.out HP1.out.perm) HA1.out HB1.out)
          go_wp2_with fail
          refine HCALL.out.mono ?_
          rintro e w2 ⟨rfl, d2, ⟨hs2, hp2⟩, ho2, hg2⟩
          have HA3 := Lib.hid hs2
          have HP2 := Lib.hid hp2
          have HO2 := Lib.hid ho2
          have HG2 := Lib.hid (grown_trans HG1.out hg2)
          clear hs2 hp2 ho2 hg2
          rcases (show (mid < en ∧ en < b) ∨ (mid < en ∧ ¬ en < b) ∨ ¬ mid < en by omega) with ⟨r1, r2⟩ | ⟨r1, r2⟩ | r1
          · have e1 : decide ((mid : Int) < (en : Int)) = true := decide_eq_true (by omega)
            have e1n : decide (mid < en) = true := decide_eq_true (by omega)
            have e2 : decide ((en : Int) < (b : Int)) = true := decide_eq_true (by omega)
            have e2n : decide (en < b) = true := decide_eq_true (by omega)
            have HCALL := Lib.hid (IH mid en b base g n c d2 w2 (by omega) r1 r2 hbn hn HO2.out (perm_f64 HF.out (HP2.out.perm.trans HP1.out.perm)) (HC3.out.keep HP2.out (.inr (Nat.le_refl _))) (HD3.out.keep HP2.out (.inr (by omega))))
            go_wp2_with fail
            refine HCALL.out.mono ?_
            rintro e w3 ⟨rfl, d3, ⟨hs3, hp3⟩, ho3, hg3⟩
            have HB3 := Lib.hid hs3
            have HP3 := Lib.hid hp3
            have HO3 := Lib.hid ho3
            have HG3 := Lib.hid (grown_trans HG2.out hg3)
            clear hs3 hp3 ho3 hg3
            go_wp2
            go_end0
            exact ⟨rfl, d3, ⟨SIn.join (HA3.out.keep HP3.out (.inl (Nat.le_refl _))) HB3.out (Fl.cross_keep HP2.out HP3.out HCR.out), (HP1.out.trans (HP2.out.mono (Nat.le_refl _) (by omega))).trans (HP3.out.mono (by omega) (Nat.le_refl _))⟩, HO3.out, HG3.out⟩
          · have e1 : decide ((mid : Int) < (en : Int)) = true := decide_eq_true (by omega)
            have e1n : decide (mid < en) = true := decide_eq_true (by omega)
            have e2 : decide ((en : Int) < (b : Int)) = false := decide_eq_false (by omega)
            have e2n : decide (en < b) = false := decide_eq_false (by omega)
            have HB3 := Lib.hid (show SIn mid b d2 from (HC3.out.keep HP2.out (.inr (Nat.le_refl _))).sub (Nat.le_refl _) (by omega))
            have HP3 := Lib.hid (PIn.refl mid b d2)
            have HO3 := HO2
            have HG3 := HG2
            go_wp2
            go_end0
            exact ⟨rfl, d2, ⟨SIn.join (HA3.out.keep HP3.out (.inl (Nat.le_refl _))) HB3.out (Fl.cross_keep HP2.out HP3.out HCR.out), (HP1.out.trans (HP2.out.mono (Nat.le_refl _) (by omega))).trans (HP3.out.mono (by omega) (Nat.le_refl _))⟩, HO3.out, HG3.out⟩
          · have e1 : decide ((mid : Int) < (en : Int)) = false := decide_eq_false (by omega)
            have e1n : decide (mid < en) = false := decide_eq_false (by omega)
            have HB3 := Lib.hid (show SIn mid b d2 from (HD3.out.keep HP2.out (.inr (by omega))).sub (by omega) (Nat.le_refl _))
            have HP3 := Lib.hid (PIn.refl mid b d2)
            have HO3 := HO2
            have HG3 := HG2
            go_wp2
            go_end0
            exact ⟨rfl, d2, ⟨SIn.join (HA3.out.keep HP3.out (.inl (Nat.le_refl _))) HB3.out (Fl.cross_keep HP2.out HP3.out HCR.out), (HP1.out.trans (HP2.out.mono (Nat.le_refl _) (by omega))).trans (HP3.out.mono (by omega) (Nat.le_refl _))⟩, HO3.out, HG3.out⟩
        · have g1 : decide ((a : Int) < (i : Int)) = true := decide_eq_true (by omega)
          have g1n : decide (a < i) = true := decide_eq_true (by omega)
          have g2 : decide ((i : Int) < (mid : Int)) = false := decide_eq_false (by omega)
          have g2n : decide (i < mid) = false := decide_eq_false (by omega)
          have HA3 := Lib.hid (show SIn a mid d1 from HA1.out.sub (Nat.le_refl _) (by omega))
          have HP2 := Lib.hid (PIn.refl a mid d1)
          have HO2 := HO1
          have HG2 := HG1
          rcases (show (mid < en ∧ en < b) ∨ (mid < en ∧ ¬ en < b) ∨ ¬ mid < en by omega) with ⟨r1, r2⟩ | ⟨r1, r2⟩ | r1
          · have e1 : decide ((mid : Int) < (en : Int)) = true := decide_eq_true (by omega)
            have e1n : decide (mid < en) = true := decide_eq_true (by omega)
            have e2 : decide ((en : Int) < (b : Int)) = true := decide_eq_true (by omega)
            have e2n : decide (en < b) = true := decide_eq_true (by omega)
            have HCALL := Lib.hid (IH mid en b base g n c d1 w1 (by omega) r1 r2 hbn hn HO2.out (perm_f64 HF.out (HP2.out.perm.trans HP1.out.perm)) (HC3.out.keep HP2.out (.inr (Nat.le_refl _))) (HD3.out.keep HP2.out (.inr (by omega))))
            go_wp2_with fail
            refine HCALL.out.mono ?_
            rintro e w3 ⟨rfl, d3, ⟨hs3, hp3⟩, ho3, hg3⟩
            have HB3 := Lib.hid hs3
            have HP3 := Lib.hid hp3
            have HO3 := Lib.hid ho3
            have HG3 := Lib.hid (grown_trans HG2.out hg3)
            clear hs3 hp3 ho3 hg3
            go_wp2
            go_end0
            exact ⟨rfl, d3, ⟨SIn.join (HA3.out.keep HP3.out (.inl (Nat.le_refl _))) HB3.out (Fl.cross_keep HP2.out HP3.out HCR.out), (HP1.out.trans (HP2.out.mono (Nat.le_refl _) (by omega))).trans (HP3.out.mono (by omega) (Nat.le_refl _))⟩, HO3.out, HG3.out⟩
          · have e1 : decide ((mid : Int) < (en : Int)) = true := decide_eq_true (by omega)
            have e1n : decide (mid < en) = true := decide_eq_true (by omega)
            have e2 : decide ((en : Int) < (b : Int)) = false := decide_eq_false (by omega)
            have e2n : decide (en < b) = false := decide_eq_false (by omega)
            have HB3 := Lib.hid (show SIn mid b d1 from (HC3.out.keep HP2.out (.inr (Nat.le_refl _))).sub (Nat.le_refl _) (by omega))
            have HP3 := Lib.hid (PIn.refl mid b d1)
            have HO3 := HO2
            have HG3 := HG2
            go_wp2
            go_end0
            exact ⟨rfl, d1, ⟨SIn.join (HA3.out.keep HP3.out (.inl (Nat.le_refl _))) HB3.out (Fl.cross_keep HP2.out HP3.out HCR.out), (HP1.out.trans (HP2.out.mono (Nat.le_refl _) (by omega))).trans (HP3.out.mono (by omega) (Nat.le_refl _))⟩, HO3.out, HG3.out⟩
          · have e1 : decide ((mid : Int) < (en : Int)) = false := decide_eq_false (by omega)
            have e1n : decide (mid < en) = false := decide_eq_false (by omega)
            have HB3 := Lib.hid (show SIn mid b d1 from (HD3.out.keep HP2.out (.inr (by omega))).sub (by omega) (Nat.le_refl _))
            have HP3 := Lib.hid (PIn.refl mid b d1)
            have HO3 := HO2
            have HG3 := HG2
            go_wp2
            go_end0
            exact ⟨rfl, d1, ⟨SIn.join (HA3.out.keep HP3.out (.inl (Nat.le_refl _))) HB3.out (Fl.cross_keep HP2.out HP3.out HCR.out), (HP1.out.trans (HP2.out.mono (Nat.le_refl _) (by omega))).trans (HP3.out.mono (by omega) (Nat.le_refl _))⟩, HO3.out, HG3.out⟩
        · have g1 : decide ((a : Int) < (i : Int)) = false := decide_eq_false (by omega)
          have g1n : decide (a < i) = false := decide_eq_false (by omega)
          have HA3 := Lib.hid (show SIn a mid d1 from HB1.out.sub (by omega) (Nat.le_refl _))
          have HP2 := Lib.hid (PIn.refl a mid d1)
          have HO2 := HO1
          have HG2 := HG1
          rcases (show (mid < en ∧ en < b) ∨ (mid < en ∧ ¬ en < b) ∨ ¬ mid < en by omega) with ⟨r1, r2⟩ | ⟨r1, r2⟩ | r1
          · have e1 : decide ((mid : Int) < (en : Int)) = true := decide_eq_true (by omega)
            have e1n : decide (mid < en) = true := decide_eq_true (by omega)
            have e2 : decide ((en : Int) < (b : Int)) = true := decide_eq_true (by omega)
            have e2n : decide (en < b) = true := decide_eq_true (by omega)
            have HCALL := Lib.hid (IH mid en b base g n c d1 w1 (by omega) r1 r2 hbn hn HO2.out (perm_f64 HF.out (HP2.out.perm.trans HP1.out.perm)) (HC3.out.keep HP2.out (.inr (Nat.le_refl _))) (HD3.out.keep HP2.out (.inr (by omega))))
            go_wp2_with fail
            refine HCALL.out.mono ?_
            rintro e w3 ⟨rfl, d3, ⟨hs3, hp3⟩, ho3, hg3⟩
            have HB3 := Lib.hid hs3
            have HP3 := Lib.hid hp3
            have HO3 := Lib.hid ho3
            have HG3 := Lib.hid (grown_trans HG2.out hg3)
            clear hs3 hp3 ho3 hg3
            go_wp2
            go_end0
            exact ⟨rfl, d3, ⟨SIn.join (HA3.out.keep HP3.out (.inl (Nat.le_refl _))) HB3.out (Fl.cross_keep HP2.out HP3.out HCR.out), (HP1.out.trans (HP2.out.mono (Nat.le_refl _) (by omega))).trans (HP3.out.mono (by omega) (Nat.le_refl _))⟩, HO3.out, HG3.out⟩
          · have e1 : decide ((mid : Int) < (en : Int)) = true := decide_eq_true (by omega)
            have e1n : decide (mid < en) = true := decide_eq_true (by omega)
            have e2 : decide ((en : Int) < (b : Int)) = false := decide_eq_false (by omega)
            have e2n : decide (en < b) = false := decide_eq_false (by omega)
            have HB3 := Lib.hid (show SIn mid b d1 from (HC3.out.keep HP2.out (.inr (Nat.le_refl _))).sub (Nat.le_refl _) (by omega))
            have HP3 := Lib.hid (PIn.refl mid b d1)
            have HO3 := HO2
            have HG3 := HG2
            go_wp2
            go_end0
            exact ⟨rfl, d1, ⟨SIn.join (HA3.out.keep HP3.out (.inl (Nat.le_refl _))) HB3.out (Fl.cross_keep HP2.out HP3.out HCR.out), (HP1.out.trans (HP2.out.mono (Nat.le_refl _) (by omega))).trans (HP3.out.mono (by omega) (Nat.le_refl _))⟩, HO3.out, HG3.out⟩
          · have e1 : decide ((mid : Int) < (en : Int)) = false := decide_eq_false (by omega)
            have e1n : decide (mid < en) = false := decide_eq_false (by omega)
            have HB3 := Lib.hid (show SIn mid b d1 from (HD3.out.keep HP2.out (.inr (by omega))).sub (by omega) (Nat.le_refl _))
            have HP3 := Lib.hid (PIn.refl mid b d1)
            have HO3 := HO2
            have HG3 := HG2
            go_wp2
            go_end0
            exact ⟨rfl, d1, ⟨SIn.join (HA3.out.keep HP3.out (.inl (Nat.le_refl _))) HB3.out (Fl.cross_keep HP2.out HP3.out HCR.out), (HP1.out.trans (HP2.out.mono (Nat.le_refl _) (by omega))).trans (HP3.out.mono (by omega) (Nat.le_refl _))⟩, HO3.out, HG3.out⟩
      · have f1 : decide ((i : Int) < (m : Int)) = true := decide_eq_true (by omega)
        have f1n : decide (i < m) = true := decide_eq_true (by omega)
        have f2 : decide ((m : Int) < (en : Int)) = false := decide_eq_false (by omega)
        have f2n : decide (m < en) = false := decide_eq_false (by omega)
        have HROT := Lib.hid (show Rot i m (mid + m - i) d d from Fl.Rot.none d (.inr (by have := EN.out; omega)) (by omega) (by have := EN.out; omega))
        have HP1 := Lib.hid (PIn.refl a b d)
        have HO1 := HO
        have HG1 := HG
        obtain ⟨q1, q2, q3, q4, q5⟩ := HCUT.out.parts ham hmb HS1.out HS2.out HROT.out
        rw [EN.out] at q3 q4
        have HA1 := Lib.hid q1
        have HB1 := Lib.hid q2
        have HC3 := Lib.hid q3
        have HD3 := Lib.hid q4
        have HCR := Lib.hid q5
        clear q1 q2 q3 q4 q5
        rcases (show (a < i ∧ i < mid) ∨ (a < i ∧ ¬ i < mid) ∨ ¬ a < i by omega) with ⟨l1, l2⟩ | ⟨l1, l2⟩ | l1
        · have g1 : decide ((a : Int) < (i : Int)) = true := decide_eq_true (by omega)
          have g1n : decide (a < i) = true := decide_eq_true (by omega)
          have g2 : decide ((i : Int) < (mid : Int)) = true := decide_eq_true (by omega)
          have g2n : decide (i < mid) = true := decide_eq_true (by omega)
          have HCALL := Lib.hid (IH a i mid base g n c d wr (by omega) l1 l2 (by omega) hn HO1.out (perm_f64 HF.out HP1.out.perm) HA1.out HB1.out)
          go_wp2_with fail
          refine HCALL.out.mono ?_
          rintro e w2 ⟨rfl, d2, ⟨hs2, hp2⟩, ho2, hg2⟩
          have HA3 := Lib.hid hs2
          have HP2 := Lib.hid hp2
          have HO2 := Lib.hid ho2
          have HG2 := Lib.hid (grown_trans HG1.out hg2)
          clear hs2 hp2 ho2 hg2
          rcases (show (mid < en ∧ en < b) ∨ (mid < en ∧ ¬ en < b) ∨ ¬ mid < en by omega) with ⟨r1, r2⟩ | ⟨r1, r2⟩ | r1
          · have e1 : decide ((mid : Int) < (en : Int)) = true := decide_eq_true (by omega)
            have e1n : decide (mid < en) = true := decide_eq_true (by omega)
            have e2 : decide ((en : Int) < (b : Int)) = true := decide_eq_true (by omega)
            have e2n : decide (en < b) = true := decide_eq_true (by omega)
            have HCALL := Lib.hid (IH mid en b base g n c d2 w2 (by omega) r1 r2 hbn hn HO2.out (perm_f64 HF.out (HP2.out.perm.trans HP1.out.perm)) (HC3.out.keep HP2.out (.inr (Nat.le_refl _))) (HD3.out.keep HP2.out (.inr (by omega))))
            go_wp2_with fail
            refine HCALL.out.mono ?_
            rintro e w3 ⟨rfl, d3, ⟨hs3, hp3⟩, ho3, hg3⟩
            have HB3 := Lib.hid hs3
            have HP3 := Lib.hid hp3
            have HO3 := Lib.hid ho3
            have HG3 := Lib.hid (grown_trans HG2.out hg3)
            clear hs3 hp3 ho3 hg3
            go_wp2
            go_end0
            exact ⟨rfl, d3, ⟨SIn.join (HA3.out.keep HP3.out (.inl (Nat.le_refl _))) HB3.out (Fl.cross_keep HP2.out HP3.out HCR.out), (HP1.out.trans (HP2.out.mono (Nat.le_refl _) (by omega))).trans (HP3.out.mono (by omega) (Nat.le_refl _))⟩, HO3.out, HG3.out⟩
          · have e1 : decide ((mid : Int) < (en : Int)) = true := decide_eq_true (by omega)
            have e1n : decide (mid < en) = true := decide_eq_true (by omega)
            have e2 : decide ((en : Int) < (b : Int)) = false := decide_eq_false (by omega)
            have e2n : decide (en < b) = false := decide_eq_false (by omega)
            have HB3 := Lib.hid (show SIn mid b d2 from (HC3.out.keep HP2.out (.inr (Nat.le_refl _))).sub (Nat.le_refl _) (by omega))
            have HP3 := Lib.hid (PIn.refl mid b d2)
            have HO3 := HO2
            have HG3 := HG2
            go_wp2
            go_end0
            exact ⟨rfl, d2, ⟨SIn.join (HA3.out.keep HP3.out (.inl (Nat.le_refl _))) HB3.out (Fl.cross_keep HP2.out HP3.out HCR.out), (HP1.out.trans (HP2.out.mono (Nat.le_refl _) (by omega))).trans (HP3.out.mono (by omega) (Nat.le_refl _))⟩, HO3.out, HG3.out⟩
          · have e1 : decide ((mid : Int) < (en : Int)) = false := decide_eq_false (by omega)
            have e1n : decide (mid < en) = false := decide_eq_false (by omega)
            have HB3 := Lib.hid (show SIn mid b d2 from (HD3.out.keep HP2.out (.inr (by omega))).sub (by omega) (Nat.le_refl _))
            have HP3 := Lib.hid (PIn.refl mid b d2)
            have HO3 := HO2
            have HG3 := HG2
            go_wp2
            go_end0
            exact ⟨rfl, d2, ⟨SIn.join (HA3.out.keep HP3.out (.inl (Nat.le_refl _))) HB3.out (Fl.cross_keep HP2.out HP3.out HCR.out), (HP1.out.trans (HP2.out.mono (Nat.le_refl _) (by omega))).trans (HP3.out.mono (by omega) (Nat.le_refl _))⟩, HO3.out, HG3.out⟩
        · have g1 : decide ((a : Int) < (i : Int)) = true := decide_eq_true (by omega)
          have g1n : decide (a < i) = true := decide_eq_true (by omega)
          have g2 : decide ((i : Int) < (mid : Int)) = false := decide_eq_false (by omega)
          have g2n : decide (i < mid) = false := decide_eq_false (by omega)
          have HA3 := Lib.hid (show SIn a mid d from HA1.out.sub (Nat.le_refl _) (by omega))
          have HP2 := Lib.hid (PIn.refl a mid d)
          have HO2 := HO1
          have HG2 := HG1
          rcases (show (mid < en ∧ en < b) ∨ (mid < en ∧ ¬ en < b) ∨ ¬ mid < en by omega) with ⟨r1, r2⟩ | ⟨r1, r2⟩ | r1
          · have e1 : decide ((mid : Int) < (en : Int)) = true := decide_eq_true (by omega)
            have e1n : decide (mid < en) = true := decide_eq_true (by omega)
            have e2 : decide ((en : Int) < (b : Int)) = true := decide_eq_true (by omega)
            have e2n : decide (en < b) = true := decide_eq_true (by omega)
            have HCALL := Lib.hid (IH mid en b base g n c d wr (by omega) r1 r2 hbn hn HO2.out (perm_f64 HF.out (HP2.out.perm.trans HP1.out.perm)) (HC3.out.keep HP2.out (.inr (Nat.le_refl _))) (HD3.out.keep HP2.out (.inr (by omega))))
            go_wp2_with fail
            refine HCALL.out.mono ?_
            rintro e w3 ⟨rfl, d3, ⟨hs3, hp3⟩, ho3, hg3⟩
            have HB3 := Lib.hid hs3
            have HP3 := Lib.hid hp3
            have HO3 := Lib.hid ho3
            have HG3 := Lib.hid (grown_trans HG2.out hg3)
            clear hs3 hp3 ho3 hg3
            go_wp2
            go_end0
            exact ⟨rfl, d3, ⟨SIn.join (HA3.out.keep HP3.out (.inl (Nat.le_refl _))) HB3.out (Fl.cross_keep HP2.out HP3.out HCR.out), (HP1.out.trans (HP2.out.mono (Nat.le_refl _) (by omega))).trans (HP3.out.mono (by omega) (Nat.le_refl _))⟩, HO3.out, HG3.out⟩
          · have e1 : decide ((mid : Int) < (en : Int)) = true := decide_eq_true (by omega)
            have e1n : decide (mid < en) = true := decide_eq_true (by omega)
            have e2 : decide ((en : Int) < (b : Int)) = false := decide_eq_false (by omega)
            have e2n : decide (en < b) = false := decide_eq_false (by omega)
            have HB3 := Lib.hid (show SIn mid b d from (HC3.out.keep HP2.out (.inr (Nat.le_refl _))).sub (Nat.le_refl _) (by omega))
            have HP3 := Lib.hid (PIn.refl mid b d)
            have HO3 := HO2
            have HG3 := HG2
            go_wp2
            go_end0
            exact ⟨rfl, d, ⟨SIn.join (HA3.out.keep HP3.out (.inl (Nat.le_refl _))) HB3.out (Fl.cross_keep HP2.out HP3.out HCR.out), (HP1.out.trans (HP2.out.mono (Nat.le_refl _) (by omega))).trans (HP3.out.mono (by omega) (Nat.le_refl _))⟩, HO3.out, HG3.out⟩
          · have e1 : decide ((mid : Int) < (en : Int)) = false := decide_eq_false (by omega)
            have e1n : decide (mid < en) = false := decide_eq_false (by omega)
            have HB3 := Lib.hid (show SIn mid b d from (HD3.out.keep HP2.out (.inr (by omega))).sub (by omega) (Nat.le_refl _))
            have HP3 := Lib.hid (PIn.refl mid b d)
            have HO3 := HO2
            have HG3 := HG2
            go_wp2
            go_end0
            exact ⟨rfl, d, ⟨SIn.join (HA3.out.keep HP3.out (.inl (Nat.le_refl _))) HB3.out (Fl.cross_keep HP2.out HP3.out HCR.out), (HP1.out.trans (HP2.out.mono (Nat.le_refl _) (by omega))).trans (HP3.out.mono (by omega) (Nat.le_refl _))⟩, HO3.out, HG3.out⟩
        · have g1 : decide ((a : Int) < (i : Int)) = false := decide_eq_false (by omega)
          have g1n : decide (a < i) = false := decide_eq_false (by omega)
          have HA3 := Lib.hid (show SIn a mid d from HB1.out.sub (by omega) (Nat.le_refl _))
          have HP2 := Lib.hid (PIn.refl a mid d)
          have HO2 := HO1
          have HG2 := HG1
          rcases (show (mid < en ∧ en < b) ∨ (mid < en ∧ ¬ en < b) ∨ ¬ mid < en by omega) with ⟨r1, r2⟩ | ⟨r1, r2⟩ | r1
          · have e1 : decide ((mid : Int) < (en : Int)) = true := decide_eq_true (by omega)
            have e1n : decide (mid < en) = true := decide_eq_true (by omega)
            have e2 : decide ((en : Int) < (b : Int)) = true := decide_eq_true (by omega)
            have e2n : decide (en < b) = true := decide_eq_true (by omega)
            have HCALL := Lib.hid (IH mid en b base g n c d wr (by omega) r1 r2 hbn hn HO2.out (perm_f64 HF.out (HP2.out.perm.trans HP1.out.perm)) (HC3.out.keep HP2.out (.inr (Nat.le_refl _))) (HD3.out.keep HP2.out (.inr (by omega))))
            go_wp2_with fail
            refine HCALL.out.mono ?_
            rintro e w3 ⟨rfl, d3, ⟨hs3, hp3⟩, ho3, hg3⟩
            have HB3 := Lib.hid hs3
            have HP3 := Lib.hid hp3
            have HO3 := Lib.hid ho3
            have HG3 := Lib.hid (grown_trans HG2.out hg3)
            clear hs3 hp3 ho3 hg3
            go_wp2
            go_end0
            exact ⟨rfl, d3, ⟨SIn.join (HA3.out.keep HP3.out (.inl (Nat.le_refl _))) HB3.out (Fl.cross_keep HP2.out HP3.out HCR.out), (HP1.out.trans (HP2.out.mono (Nat.le_refl _) (by omega))).trans (HP3.out.mono (by omega) (Nat.le_refl _))⟩, HO3.out, HG3.out⟩
          · have e1 : decide ((mid : Int) < (en : Int)) = true := decide_eq_true (by omega)
            have e1n : decide (mid < en) = true := decide_eq_true (by omega)
            have e2 : decide ((en : Int) < (b : Int)) = false := decide_eq_false (by omega)
            have e2n : decide (en < b) = false := decide_eq_false (by omega)
            have HB3 := Lib.hid (show SIn mid b d from (HC3.out.keep HP2.out (.inr (Nat.le_refl _))).sub (Nat.le_refl _) (by omega))
            have HP3 := Lib.hid (PIn.refl mid b d)
            have HO3 := HO2
            have HG3 := HG2
            go_wp2
            go_end0
            exact ⟨rfl, d, ⟨SIn.join (HA3.out.keep HP3.out (.inl (Nat.le_refl _))) HB3.out (Fl.cross_keep HP2.out HP3.out HCR.out), (HP1.out.trans (HP2.out.mono (Nat.le_refl _) (by omega))).trans (HP3.out.mono (by omega) (Nat.le_refl _))⟩, HO3.out, HG3.out⟩
          · have e1 : decide ((mid : Int) < (en : Int)) = false := decide_eq_false (by omega)
            have e1n : decide (mid < en) = false := decide_eq_false (by omega)
            have HB3 := Lib.hid (show SIn mid b d from (HD3.out.keep HP2.out (.inr (by omega))).sub (by omega) (Nat.le_refl _))
            have HP3 := Lib.hid (PIn.refl mid b d)
            have HO3 := HO2
            have HG3 := HG2
            go_wp2
            go_end0
            exact ⟨rfl, d, ⟨SIn.join (HA3.out.keep HP3.out (.inl (Nat.le_refl _))) HB3.out (Fl.cross_keep HP2.out HP3.out HCR.out), (HP1.out.trans (HP2.out.mono (Nat.le_refl _) (by omega))).trans (HP3.out.mono (by omega) (Nat.le_refl _))⟩, HO3.out, HG3.out⟩
      · have f1 : decide ((i : Int) < (m : Int)) = false := decide_eq_false (by omega)
        have f1n : decide (i < m) = false := decide_eq_false (by omega)
        have HROT := Lib.hid (show Rot i m (mid + m - i) d d from Fl.Rot.none d (.inl (by omega)) (by omega) (by have := EN.out; omega))
        have HP1 := Lib.hid (PIn.refl a b d)
        have HO1 := HO
        have HG1 := HG
        obtain ⟨q1, q2, q3, q4, q5⟩ := HCUT.out.parts ham hmb HS1.out HS2.out HROT.out
        rw [EN.out] at q3 q4
        have HA1 := Lib.hid q1
        have HB1 := Lib.hid q2
        have HC3 := Lib.hid q3
        have HD3 := Lib.hid q4
        have HCR := Lib.hid q5
        clear q1 q2 q3 q4 q5
        rcases (show (a < i ∧ i < mid) ∨ (a < i ∧ ¬ i < mid) ∨ ¬ a < i by omega) with ⟨l1, l2⟩ | ⟨l1, l2⟩ | l1
        · have g1 : decide ((a : Int) < (i : Int)) = true := decide_eq_true (by omega)
          have g1n : decide (a < i) = true := decide_eq_true (by omega)
          have g2 : decide ((i : Int) < (mid : Int)) = true := decide_eq_true (by omega)
          have g2n : decide (i < mid) = true := decide_eq_true (by omega)
          have HCALL := Lib.hid (IH a i mid base g n c d wr (by omega) l1 l2 (by omega) hn HO1.out (perm_f64 HF.out HP1.out.perm) HA1.out HB1.out)
          go_wp2_with fail
          refine HCALL.out.mono ?_
          rintro e w2 ⟨rfl, d2, ⟨hs2, hp2⟩, ho2, hg2⟩
          have HA3 := Lib.hid hs2
          have HP2 := Lib.hid hp2
          have HO2 := Lib.hid ho2
          have HG2 := Lib.hid (grown_trans HG1.out hg2)
          clear hs2 hp2 ho2 hg2
          rcases (show (mid < en ∧ en < b) ∨ (mid < en ∧ ¬ en < b) ∨ ¬ mid < en by omega) with ⟨r1, r2⟩ | ⟨r1, r2⟩ | r1
          · have e1 : decide ((mid : Int) < (en : Int)) = true := decide_eq_true (by omega)
            have e1n : decide (mid < en) = true := decide_eq_true (by omega)
            have e2 : decide ((en : Int) < (b : Int)) = true := decide_eq_true (by omega)
            have e2n : decide (en < b) = true := decide_eq_true (by omega)
            have HCALL := Lib.hid (IH mid en b base g n c d2 w2 (by omega) r1 r2 hbn hn HO2.out (perm_f64 HF.out (HP2.out.perm.trans HP1.out.perm)) (HC3.out.keep HP2.out (.inr (Nat.le_refl _))) (HD3.out.keep HP2.out (.inr (by omega))))
            go_wp2_with fail
            refine HCALL.out.mono ?_
            rintro e w3 ⟨rfl, d3, ⟨hs3, hp3⟩, ho3, hg3⟩
            have HB3 := Lib.hid hs3
            have HP3 := Lib.hid hp3
            have HO3 := Lib.hid ho3
            have HG3 := Lib.hid (grown_trans HG2.out hg3)
            clear hs3 hp3 ho3 hg3
            go_wp2
            go_end0
            exact ⟨rfl, d3, ⟨SIn.join (HA3.out.keep HP3.out (.inl (Nat.le_refl _))) HB3.out (Fl.cross_keep HP2.out HP3.out HCR.out), (HP1.out.trans (HP2.out.mono (Nat.le_refl _) (by omega))).trans (HP3.out.mono (by omega) (Nat.le_refl _))⟩, HO3.out, HG3.out⟩
          · have e1 : decide ((mid : Int) < (en : Int)) = true := decide_eq_true (by omega)
            have e1n : decide (mid < en) = true := decide_eq_true (by omega)
            have e2 : decide ((en : Int) < (b : Int)) = false := decide_eq_false (by omega)
            have e2n : decide (en < b) = false := decide_eq_false (by omega)
            have HB3 := Lib.hid (show SIn mid b d2 from (HC3.out.keep HP2.out (.inr (Nat.le_refl _))).sub (Nat.le_refl _) (by omega))
            have HP3 := Lib.hid (PIn.refl mid b d2)
            have HO3 := HO2
            have HG3 := HG2
            go_wp2
            go_end0
            exact ⟨rfl, d2, ⟨SIn.join (HA3.out.keep HP3.out (.inl (Nat.le_refl _))) HB3.out (Fl.cross_keep HP2.out HP3.out HCR.out), (HP1.out.trans (HP2.out.mono (Nat.le_refl _) (by omega))).trans (HP3.out.mono (by omega) (Nat.le_refl _))⟩, HO3.out, HG3.out⟩
          · have e1 : decide ((mid : Int) < (en : Int)) = false := decide_eq_false (by omega)
            have e1n : decide (mid < en) = false := decide_eq_false (by omega)
            have HB3 := Lib.hid (show SIn mid b d2 from (HD3.out.keep HP2.out (.inr (by omega))).sub (by omega) (Nat.le_refl _))
            have HP3 := Lib.hid (PIn.refl mid b d2)
            have HO3 := HO2
            have HG3 := HG2
            go_wp2
            go_end0
            exact ⟨rfl, d2, ⟨SIn.join (HA3.out.keep HP3.out (.inl (Nat.le_refl _))) HB3.out (Fl.cross_keep HP2.out HP3.out HCR.out), (HP1.out.trans (HP2.out.mono (Nat.le_refl _) (by omega))).trans (HP3.out.mono (by omega) (Nat.le_refl _))⟩, HO3.out, HG3.out⟩
        · have g1 : decide ((a : Int) < (i : Int)) = true := decide_eq_true (by omega)
          have g1n : decide (a < i) = true := decide_eq_true (by omega)
          have g2 : decide ((i : Int) < (mid : Int)) = false := decide_eq_false (by omega)
          have g2n : decide (i < mid) = false := decide_eq_false (by omega)
          have HA3 := Lib.hid (show SIn a mid d from HA1.out.sub (Nat.le_refl _) (by omega))
          have HP2 := Lib.hid (PIn.refl a mid d)
          have HO2 := HO1
          have HG2 := HG1
          rcases (show (mid < en ∧ en < b) ∨ (mid < en ∧ ¬ en < b) ∨ ¬ mid < en by omega) with ⟨r1, r2⟩ | ⟨r1, r2⟩ | r1
          · have e1 : decide ((mid : Int) < (en : Int)) = true := decide_eq_true (by omega)
            have e1n : decide (mid < en) = true := decide_eq_true (by omega)
            have e2 : decide ((en : Int) < (b : Int)) = true := decide_eq_true (by omega)
            have e2n : decide (en < b) = true := decide_eq_true (by omega)
            have HCALL := Lib.hid (IH mid en b base g n c d wr (by omega) r1 r2 hbn hn HO2.out (perm_f64 HF.out (HP2.out.perm.trans HP1.out.perm)) (HC3.out.keep HP2.out (.inr (Nat.le_refl _))) (HD3.out.keep HP2.out (.inr (by omega))))
            go_wp2_with fail
            refine HCALL.out.mono ?_
            rintro e w3 ⟨rfl, d3, ⟨hs3, hp3⟩, ho3, hg3⟩
            have HB3 := Lib.hid hs3
            have HP3 := Lib.hid hp3
            have HO3 := Lib.hid ho3
            have HG3 := Lib.hid (grown_trans HG2.out hg3)
            clear hs3 hp3 ho3 hg3
            go_wp2
            go_end0
            exact ⟨rfl, d3, ⟨SIn.join (HA3.out.keep HP3.out (.inl (Nat.le_refl _))) HB3.out (Fl.cross_keep HP2.out HP3.out HCR.out), (HP1.out.trans (HP2.out.mono (Nat.le_refl _) (by omega))).trans (HP3.out.mono (by omega) (Nat.le_refl _))⟩, HO3.out, HG3.out⟩
          · have e1 : decide ((mid : Int) < (en : Int)) = true := decide_eq_true (by omega)
            have e1n : decide (mid < en) = true := decide_eq_true (by omega)
            have e2 : decide ((en : Int) < (b : Int)) = false := decide_eq_false (by omega)
            have e2n : decide (en < b) = false := decide_eq_false (by omega)
            have HB3 := Lib.hid (show SIn mid b d from (HC3.out.keep HP2.out (.inr (Nat.le_refl _))).sub (Nat.le_refl _) (by omega))
            have HP3 := Lib.hid (PIn.refl mid b d)
            have HO3 := HO2
            have HG3 := HG2
            go_wp2
            go_end0
            exact ⟨rfl, d, ⟨SIn.join (HA3.out.keep HP3.out (.inl (Nat.le_refl _))) HB3.out (Fl.cross_keep HP2.out HP3.out HCR.out), (HP1.out.trans (HP2.out.mono (Nat.le_refl _) (by omega))).trans (HP3.out.mono (by omega) (Nat.le_refl _))⟩, HO3.out, HG3.out⟩
          · have e1 : decide ((mid : Int) < (en : Int)) = false := decide_eq_false (by omega)
            have e1n : decide (mid < en) = false := decide_eq_false (by omega)
            have HB3 := Lib.hid (show SIn mid b d from (HD3.out.keep HP2.out (.inr (by omega))).sub (by omega) (Nat.le_refl _))
            have HP3 := Lib.hid (PIn.refl mid b d)
            have HO3 := HO2
            have HG3 := HG2
            go_wp2
            go_end0
            exact ⟨rfl, d, ⟨SIn.join (HA3.out.keep HP3.out (.inl (Nat.le_refl _))) HB3.out (Fl.cross_keep HP2.out HP3.out HCR.out), (HP1.out.trans (HP2.out.mono (Nat.le_refl _) (by omega))).trans (HP3.out.mono (by omega) (Nat.le_refl _))⟩, HO3.out, HG3.out⟩
        · have g1 : decide ((a : Int) < (i : Int)) = false := decide_eq_false (by omega)
          have g1n : decide (a < i) = false := decide_eq_false (by omega)
          have HA3 := Lib.hid (show SIn a mid d from HB1.out.sub (by omega) (Nat.le_refl _))
          have HP2 := Lib.hid (PIn.refl a mid d)
          have HO2 := HO1
          have HG2 := HG1
          rcases (show (mid < en ∧ en < b) ∨ (mid < en ∧ ¬ en < b) ∨ ¬ mid < en by omega) with ⟨r1, r2⟩ | ⟨r1, r2⟩ | r1
          · have e1 : decide ((mid : Int) < (en : Int)) = true := decide_eq_true (by omega)
            have e1n : decide (mid < en) = true := decide_eq_true (by omega)
            have e2 : decide ((en : Int) < (b : Int)) = true := decide_eq_true (by omega)
            have e2n : decide (en < b) = true := decide_eq_true (by omega)
            have HCALL := Lib.hid (IH mid en b base g n c d wr (by omega) r1 r2 hbn hn HO2.out (perm_f64 HF.out (HP2.out.perm.trans HP1.out.perm)) (HC3.out.keep HP2.out (.inr (Nat.le_refl _))) (HD3.out.keep HP2.out (.inr (by omega))))
            go_wp2_with fail
            refine HCALL.out.mono ?_
            rintro e w3 ⟨rfl, d3, ⟨hs3, hp3⟩, ho3, hg3⟩
            have HB3 := Lib.hid hs3
            have HP3 := Lib.hid hp3
            have HO3 := Lib.hid ho3
            have HG3 := Lib.hid (grown_trans HG2.out hg3)
            clear hs3 hp3 ho3 hg3
            go_wp2
            go_end0
            exact ⟨rfl, d3, ⟨SIn.join (HA3.out.keep HP3.out (.inl (Nat.le_refl _))) HB3.out (Fl.cross_keep HP2.out HP3.out HCR.out), (HP1.out.trans (HP2.out.mono (Nat.le_refl _) (by omega))).trans (HP3.out.mono (by omega) (Nat.le_refl _))⟩, HO3.out, HG3.out⟩
          · have e1 : decide ((mid : Int) < (en : Int)) = true := decide_eq_true (by omega)
            have e1n : decide (mid < en) = true := decide_eq_true (by omega)
            have e2 : decide ((en : Int) < (b : Int)) = false := decide_eq_false (by omega)
            have e2n : decide (en < b) = false := decide_eq_false (by omega)
            have HB3 := Lib.hid (show SIn mid b d from (HC3.out.keep HP2.out (.inr (Nat.le_refl _))).sub (Nat.le_refl _) (by omega))
            have HP3 := Lib.hid (PIn.refl mid b d)
            have HO3 := HO2
            have HG3 := HG2
            go_wp2
            go_end0
            exact ⟨rfl, d, ⟨SIn.join (HA3.out.keep HP3.out (.inl (Nat.le_refl _))) HB3.out (Fl.cross_keep HP2.out HP3.out HCR.out), (HP1.out.trans (HP2.out.mono (Nat.le_refl _) (by omega))).trans (HP3.out.mono (by omega) (Nat.le_refl _))⟩, HO3.out, HG3.out⟩
          · have e1 : decide ((mid : Int) < (en : Int)) = false := decide_eq_false (by omega)
            have e1n : decide (mid < en) = false := decide_eq_false (by omega)
            have HB3 := Lib.hid (show SIn mid b d from (HD3.out.keep HP2.out (.inr (by omega))).sub (by omega) (Nat.le_refl _))
            have HP3 := Lib.hid (PIn.refl mid b d)
            have HO3 := HO2
            have HG3 := HG2
            go_wp2
            go_end0
            exact ⟨rfl, d, ⟨SIn.join (HA3.out.keep HP3.out (.inl (Nat.le_refl _))) HB3.out (Fl.cross_keep HP2.out HP3.out HCR.out), (HP1.out.trans (HP2.out.mono (Nat.le_refl _) (by omega))).trans (HP3.out.mono (by omega) (Nat.le_refl _))⟩, HO3.out, HG3.out⟩
end Go.Proofs.Ytbgpgdbheajekaa

/-
  The library's symMerge over rates of a call's own, whole. Conditions: no more than 2^16 rates.
-/
namespace Go.Proofs.Ytbgpgdbheajekaa
open Go.RowKit
open Fl (SIn)

theorem st_merge (C : CmpOk) : ∀ N, MrgS N
  | 0 => fun a m b _ _ _ _ _ _ hN ham hmb _ _ _ _ _ _ => absurd hN (by omega)
  | N + 1 => fun a m b base g n c d w hN ham hmb hbn hn h hf hs1 hs2 => by
    by_cases hA : m = a + 1
    · exact mrg_a C a m b base g n c d w ham hmb hbn hn h hf hs1 hs2 hA
    · by_cases hB : b = m + 1
      · exact mrg_b C a m b base g n c d w ham hmb hbn hn h hf hs1 hs2 hA hB
      · by_cases hm : (a + b) / 2 < m
        · exact mrg_c1 C N (st_merge C N) a m b _ base g n c d w ham hmb hbn hn h hf hs1 hs2 hN hA hB rfl hm
        · exact mrg_c2 C N (st_merge C N) a m b _ base g n c d w ham hmb hbn hn h hf hs1 hs2 hN hA hB rfl hm
end Go.Proofs.Ytbgpgdbheajekaa

/-
  Blocks in order, and blocks of twice the size, on plain lists. Conditions: none; nothing of the program is named here.
-/
namespace Fl
open Pol (co)

/-- Within each block of s rates the first l are in order. -/
def Blk (s l : Nat) (d : List Nat) : Prop := ∀ i j, i ≤ j → j < l → i / s = j / s → K (co d i) ≤ K (co d j)
/-- From a on the blocks of s rates are in order, up to l. -/
def Blf (s a l : Nat) (d : List Nat) : Prop := ∀ i j, a ≤ i → i ≤ j → j < l → i / s = j / s → K (co d i) ≤ K (co d j)
theorem Blk.from {s l : Nat} {d : List Nat} (h : Blk s l d) (a : Nat) : Blf s a l d := fun i j _ h2 h3 h4 => h i j h2 h3 h4
theorem Blk.all {s l : Nat} {d : List Nat} (h : Blk s l d) (hs : l ≤ s) : SIn 0 l d := fun i j _ h2 h3 => h i j h2 h3 (by rw [Nat.div_eq_of_lt (by omega), Nat.div_eq_of_lt (by omega)])
theorem Blk.zero (s : Nat) (d : List Nat) : Blk s 0 d := fun i j _ h _ => absurd h (by omega)
/-- A block of those. -/
theorem Blf.sin {s a l t x y : Nat} {d : List Nat} (h : Blf s a l d) (hx : a ≤ x) (ht : t * s ≤ x) (hy : y ≤ (t + 1) * s) (hl : y ≤ l) : SIn x y d := fun i j h1 h2 h3 =>
  h i j (by omega) h2 (by omega) (by
    have e : ∀ k, x ≤ k → k < y → k / s = t := fun k k1 k2 => Nat.div_eq_of_lt_le (by omega) (by omega)
    rw [e i h1 (by omega), e j (by omega) h3])
/-- One block more. -/
theorem Blk.more {s t a b : Nat} {d d' : List Nat} (h : Blk s a d) (hs : SIn a b d') (hp : PIn a b d d') (ha : a = t * s) (h0 : 0 < s) : Blk s b d' := fun i j h1 h2 h3 => by
  by_cases c1 : j < a
  · rw [hp.out i (by omega), hp.out j (by omega)]
    exact h i j h1 c1 h3
  · by_cases c2 : a ≤ i
    · exact hs i j c2 h1 h2
    · have e1 : i / s < t := (Nat.div_lt_iff_lt_mul h0).2 (by omega)
      have e2 : t ≤ j / s := (Nat.le_div_iff_mul_le h0).2 (by omega)
      omega
theorem Blf.keep {s a b l : Nat} {d d' : List Nat} (h : Blf s a l d) (hp : PIn a b d d') (hab : a ≤ b) : Blf s b l d' := fun i j h1 h2 h3 h4 => by
  rw [hp.out i (by omega), hp.out j (by omega)]
  exact h i j (by omega) h2 h3 h4
end Fl

/-
  The library's stable sort over rates of a call's own. Conditions: no more than 2^16 rates.
-/
namespace Go.Proofs.Ytbgpgdbheajekaa
open Go.RowKit
open Pol (co)
open Fl (K sw swr PIn SIn Rot Blk Blf)

set_option maxHeartbeats 6400000 in
set_option maxRecDepth 100000 in
theorem st_stable (C : CmpOk) (base g n c : Nat) (d : List Nat) (w : World) (h : Own w base g n c d) (hf : F64 d) (hn : n ≤ 65536) :
    Calls Try.prog 31 #[.slice (some ⟨g, 0, none⟩) n c, .int .i64 (n : Int), cmpv] w (Lves (fun d' => SIn 0 n d' ∧ PIn 0 n d d') base g n c w) := by
  have H := Lib.hid h
  have HF := Lib.hid hf
  clear h hf
  go_enter Try.func31, Try.ntmps31
  go_wp2
  go_loopg [7, 8] n (fun q s7 s8 wx => ∃ a b t : Nat, s7 = .int .i64 (a : Int) ∧ s8 = .int .i64 (b : Int) ∧ b ≤ a + 20 ∧ a + 20 ≤ b ∧ a ≤ n ∧ n ≤ a + q ∧ a = t * 20 ∧ w.grownBy wx (some g) ∧ ∃ x, Own wx base g n c x ∧ PIn 0 n d x ∧ Blk 20 a x)
  case atStart => exact ⟨0, 20, 0, rfl, rfl, by omega, by omega, by omega, by omega, by omega, grown_refl _ _, d, H.out, PIn.refl .., Blk.zero _ _⟩
  case round =>
    obtain ⟨a, b, t, rfl, rfl, hb1, hb2, han, hq, hat, hg, x, ho, hp, hk⟩ := hrel
    have HG := Lib.hid hg
    have HO := Lib.hid ho
    have HP := Lib.hid hp
    have HK := Lib.hid hk
    have HT := Lib.hid hat
    clear hg ho hp hk hat
    by_cases hbn : b ≤ n
    · have hbz : (b : Int) ≤ (n : Int) := by omega
      cases gk with
      | zero => omega
      | succ q =>
        have HCALL := Lib.hid (st_ins C base g n c a b x wr HO.out (perm_f64 HF.out HP.out.perm) (by omega) hbn hn)
        obtain ⟨b2, eb2⟩ : ∃ q, b + 20 = q := ⟨_, rfl⟩
        have zb2 : (b : Int) + 20 = (b2 : Int) := by omega
        have HB2 := Lib.hid eb2
        clear eb2
        go_wp2_with fail
        refine HCALL.out.mono ?_
        rintro e w1 ⟨rfl, y, ⟨hy, hpy⟩, ho1, hg1⟩
        have HY := Lib.hid (And.intro hy hpy)
        have HO1 := Lib.hid ho1
        have HG1 := Lib.hid (grown_trans HG.out hg1)
        clear hy hpy ho1 hg1
        go_wp2
        go_roundg q
        case measure => omega
        case rel => exact ⟨b, b2, t + 1, rfl, rfl, by have := HB2.out; omega, by have := HB2.out; omega, hbn, by omega, by have := HT.out; omega, HG1.out, y, HO1.out, HP.out.trans (HY.out.2.mono (by omega) hbn), HK.out.more HY.out.1 HY.out.2 HT.out (by omega)⟩
    · have hbz : ¬ (b : Int) ≤ (n : Int) := by omega
      have HCALL := Lib.hid (st_ins C base g n c a n x wr HO.out (perm_f64 HF.out HP.out.perm) han (Nat.le_refl _) hn)
      clear hq
      go_wp2_with fail
      refine HCALL.out.mono ?_
      rintro e w1 ⟨rfl, y, ⟨hy, hpy⟩, ho1, hg1⟩
      have HBK := Lib.hid (HK.out.more hy hpy HT.out (by omega))
      have HPY := Lib.hid (HP.out.trans (hpy.mono (Nat.zero_le _) (Nat.le_refl _)))
      have HO1 := Lib.hid ho1
      have HG1 := Lib.hid (grown_trans HG.out hg1)
      clear hy hpy ho1 hg1 HG HO HP HK HT hb1 hb2 hbn hbz han HCALL
      obtain ⟨wo, hwo⟩ : ∃ wq, wq = w1 := ⟨_, rfl⟩
      subst hwo
      go_wp2
      go_loopg [6] n (fun q s6 wx => ∃ s : Nat, s6 = .int .i64 (s : Int) ∧ 0 < s ∧ s ≤ 131072 ∧ n ≤ s + q ∧ w.grownBy wx (some g) ∧ ∃ x, Own wx base g n c x ∧ PIn 0 n d x ∧ Blk s n x)
      case atStart => exact ⟨20, rfl, by omega, by omega, by omega, HG1.out, y, HO1.out, HPY.out, HBK.out⟩
      case round =>
        obtain ⟨s, rfl, hs0, hs1, hq, hg, x, ho, hp, hk⟩ := hrel
        have HG := Lib.hid hg
        have HO := Lib.hid ho
        have HP := Lib.hid hp
        have HK := Lib.hid hk
        clear hg ho hp hk HG1 HO1 HPY HBK
        by_cases hsn : s < n
        · have hsz : (s : Int) < (n : Int) := by omega
          cases gk with
          | zero => omega
          | succ q =>
            obtain ⟨s2, es2⟩ : ∃ q, 2 * s = q := ⟨_, rfl⟩
            have zs2 : (2 : Int) * (s : Int) = (s2 : Int) := by omega
            have zs3 : (s : Int) * (2 : Int) = (s2 : Int) := by omega
            have hs2 : s2 ≤ 2 * s ∧ 2 * s ≤ s2 := by omega
            have HS2 := Lib.hid es2
            clear es2
            obtain ⟨w3, hw3⟩ : ∃ wq, wq = wr := ⟨_, rfl⟩
            subst hw3
            go_wp2
            go_loopg [7, 8] n (fun q s7 s8 wx => ∃ a b t : Nat, s7 = .int .i64 (a : Int) ∧ s8 = .int .i64 (b : Int) ∧ b ≤ a + s2 ∧ a + s2 ≤ b ∧ a ≤ n ∧ n ≤ a + q ∧ a = t * s2 ∧ w.grownBy wx (some g) ∧ ∃ x, Own wx base g n c x ∧ PIn 0 n d x ∧ Blk s2 a x ∧ Blf s a n x)
            case atStart => exact ⟨0, s2, 0, rfl, rfl, by omega, by omega, by omega, by omega, by omega, HG.out, x, HO.out, HP.out, Blk.zero _ _, HK.out.from 0⟩
            case round =>
              obtain ⟨a, b, t, rfl, rfl, hb1, hb2, han, hq2, hat, hg, y, ho, hp, hk, hf⟩ := hrel
              have HG2 := Lib.hid hg
              have HO2 := Lib.hid ho
              have HP2 := Lib.hid hp
              have HK2 := Lib.hid hk
              have HF2 := Lib.hid hf
              have HT := Lib.hid hat
              have ht1 : 2 * t * s = a := by rw [hat, ← HS2.out, Nat.mul_comm 2 t, Nat.mul_assoc]
              have HT1 := Lib.hid ht1
              have HT2 := Lib.hid (show (2 * t + 1) * s = a + s by rw [Nat.add_mul, ht1, Nat.one_mul])
              have HT3 := Lib.hid (show (2 * t + 1 + 1) * s = a + s2 by rw [Nat.add_mul, Nat.add_mul, ht1, Nat.one_mul, ← HS2.out]; omega)
              clear hg ho hp hk hf hat ht1 HG HO HP HK
              obtain ⟨am, eam⟩ : ∃ q, a + s = q := ⟨_, rfl⟩
              have zam : (a : Int) + (s : Int) = (am : Int) := by omega
              have hamb : am ≤ a + s ∧ a + s ≤ am := by omega
              have HAM := Lib.hid eam
              clear eam
              by_cases hbn : b ≤ n
              · have hbz : (b : Int) ≤ (n : Int) := by omega
                cases gk with
                | zero => omega
                | succ q3 =>
                  have HCALL := Lib.hid (st_merge C (b - a) a am b base g n c y wr (Nat.le_refl _) (by omega) (by omega) hbn hn HO2.out (perm_f64 HF.out HP2.out.perm)
                    (HF2.out.sin (t := 2 * t) (Nat.le_refl _) (Nat.le_of_eq HT1.out) (by rw [HT2.out]; omega) (by omega)) (HF2.out.sin (t := 2 * t + 1) (by omega) (by rw [HT2.out]; omega) (by rw [HT3.out]; omega) hbn))
                  obtain ⟨b2, eb2⟩ : ∃ q, b + s2 = q := ⟨_, rfl⟩
                  have zb2 : (b : Int) + (s2 : Int) = (b2 : Int) := by omega
                  have HB2 := Lib.hid eb2
                  clear eb2
                  go_wp2_with fail
                  refine HCALL.out.mono ?_
                  rintro e w4 ⟨rfl, z, ⟨hy, hpy⟩, ho1, hg1⟩
                  have HY := Lib.hid (And.intro hy hpy)
                  have HO3 := Lib.hid ho1
                  have HG3 := Lib.hid (grown_trans HG2.out hg1)
                  clear hy hpy ho1 hg1
                  go_wp2
                  go_roundg q3
                  case measure => omega
                  case rel => exact ⟨b, b2, t + 1, rfl, rfl, by have := HB2.out; omega, by have := HB2.out; omega, hbn, by omega, by rw [Nat.add_mul, Nat.one_mul, ← HT.out]; omega, HG3.out, z, HO3.out, HP2.out.trans (HY.out.2.mono (by omega) hbn), HK2.out.more HY.out.1 HY.out.2 HT.out (by omega), HF2.out.keep HY.out.2 (by omega)⟩
              · have hbz : ¬ (b : Int) ≤ (n : Int) := by omega
                by_cases ham : am < n
                · have dz : decide ((am : Int) < (n : Int)) = true := decide_eq_true (by omega)
                  have dz2 : decide (am < n) = true := decide_eq_true (by omega)
                  have HCALL := Lib.hid (st_merge C (n - a) a am n base g n c y wr (Nat.le_refl _) (by omega) ham (Nat.le_refl _) hn HO2.out (perm_f64 HF.out HP2.out.perm)
                    (HF2.out.sin (t := 2 * t) (Nat.le_refl _) (Nat.le_of_eq HT1.out) (by rw [HT2.out]; omega) (by omega)) (HF2.out.sin (t := 2 * t + 1) (by omega) (by rw [HT2.out]; omega) (by rw [HT3.out]; omega) (Nat.le_refl _)))
                  go_wp2_with fail
                  refine HCALL.out.mono ?_
                  rintro e w4 ⟨rfl, z, ⟨hy, hpy⟩, ho1, hg1⟩
                  have HY := Lib.hid (And.intro hy hpy)
                  have HO3 := Lib.hid ho1
                  have HG3 := Lib.hid (grown_trans HG2.out hg1)
                  clear hy hpy ho1 hg1
                  go_wp2
                  go_roundg q
                  case measure => omega
                  case rel => exact ⟨s2, rfl, by omega, by omega, by omega, HG3.out, z, HO3.out, HP2.out.trans (HY.out.2.mono (by omega) (Nat.le_refl _)), HK2.out.more HY.out.1 HY.out.2 HT.out (by omega)⟩
                · have dz : decide ((am : Int) < (n : Int)) = false := decide_eq_false (by omega)
                  have dz2 : decide (am < n) = false := decide_eq_false (by omega)
                  go_wp2
                  go_roundg q
                  case measure => omega
                  case rel => exact ⟨s2, rfl, by omega, by omega, by omega, HG2.out, y, HO2.out, HP2.out, HK2.out.more (HF2.out.sin (t := 2 * t) (Nat.le_refl _) (Nat.le_of_eq HT1.out) (by rw [HT2.out]; omega) (Nat.le_refl _)) (PIn.refl ..) HT.out (by omega)⟩
        · have hsz : ¬ (s : Int) < (n : Int) := by omega
          go_wp2
          go_end0
          exact ⟨rfl, x, ⟨HK.out.all (by omega), HP.out⟩, HO.out, HG.out⟩
theorem st_sort (C : CmpOk) (base g n c : Nat) (d : List Nat) (w : World) (h : Own w base g n c d) (hf : F64 d) (hn : n ≤ 65536) :
    Calls Try.prog 29 #[.slice (some ⟨g, 0, none⟩) n c, cmpv] w (Lves (fun d' => SIn 0 n d' ∧ PIn 0 n d d') base g n c w) := by
  have HC := Lib.hid (st_stable C base g n c d w h hf hn)
  clear h hf
  go_enter Try.func29, Try.ntmps29
  go_wp2_with fail
  refine HC.out.mono ?_
  rintro e w1 ⟨rfl, hx⟩
  have HX := Lib.hid hx
  clear hx
  go_wp2
  go_end0
  exact ⟨rfl, HX.out⟩
end Go.Proofs.Ytbgpgdbheajekaa

/-
  The code's own Sort and Mid, by the library's stable sort. Conditions: no more than 2^16 rates.
-/
namespace Go.Proofs.Ytbgpgdbheajekaa
open Go.RowKit
open Pol (co)
open Fl (K v rung sgn IsNan SIn PIn IsRate)

theorem cmpOk : CmpOk := fun x y _ _ => sc_compare x y
/-- Rates of a call's own that read as these. -/
def CloneF (l : List Nat) (w : World) (e : Ending) (w' : World) : Prop := Ext w w' ∧ ∃ v, e = .returned v ∧ FMine w' w.heap.size v l
set_option maxHeartbeats 800000 in
theorem sc_clone (l : List Nat) (A : Option Addr) (n c : Nat) (w : World) (hn : l.length = n) (hr : FRd w A l) (hl : n ≤ 65536) : Calls Try.prog 28 #[.slice A n c] w (CloneF l w) := by
  unfold CloneF
  have HR := Lib.hid hr
  have HN := Lib.hid hn
  have qn : ∀ (W : World) (B : Option Addr) (n c : Nat), (binOp .eql 32 (.slice B n c) (.slice none 0 0)).run Try.prog W = .ok (.bool B.isNone) W := fun W B n c => Lib.run_eql_slice_nil W _ _ B n c 0 0 Try.underlying32
  cases A with
  | none =>
    have ht : l = [] := by
      rcases Nat.eq_zero_or_pos l.length with h | h
      · exact List.eq_nil_of_length_eq_zero h
      · obtain ⟨_, _, e, _⟩ := hr.2 0 h; cases e
    have HT := Lib.hid ht
    clear hr hn ht
    go_enter Try.func28, Try.ntmps28
    go_wp2
    go_ret
    exact ⟨Ext.refl _, _, rfl, by rw [HT.out]; exact FMine.nil _ _⟩
  | some a =>
    have hx := (Ext.refl w).alloc (.cells #[] 22)
    have HX := Lib.hid hx
    have HM := Lib.hid (fmine_empty w)
    clear hr hn hx
    go_enter Try.func28, Try.ntmps28
    go_wp2_with (first | (at_builtin; refine wpList_append_f64 rfl (.tmp 5) (.tmp 6) rfl w.heap.size _ [] l rfl HM.out (some a) n c rfl HN.out (HR.out.ext HX.out) (by rw [HN.out]; simp; omega) HX.out.size ?_; intro v2 w2 hv2 hg2 _; have HV2 := Lib.hid hv2; have HX2 := Lib.hid (HX.out.more hg2 (fun q e => (HM.out.block q e).1)); clear hv2 hg2) | fail)
    go_ret
    exact ⟨HX2.out, _, rfl, by have h := HV2.out; rwa [List.nil_append] at h⟩
theorem FMine.shape {w : World} {base : Nat} {v : Value} {l : List Nat} (h : FMine w base v l) : (v = .slice none 0 0 ∧ l = []) ∨ ∃ g c, v = .slice (some ⟨g, 0, none⟩) l.length c ∧ base ≤ g := by
  rcases h.2 with ⟨rfl, hn⟩ | ⟨g, cap, cur, rfl, hb, _⟩
  · exact .inl ⟨rfl, List.eq_nil_of_length_eq_zero hn⟩
  · exact .inr ⟨g, cap, rfl, hb⟩
/-- A list of no rates: the library's sort does nothing. -/
theorem st_none (cmp : Value) (w : World) : Calls Try.prog 29 #[.slice none 0 0, cmp] w (Tells (.tuple #[]) w) := by
  have h1 : ∀ u, Calls Try.prog 33 #[.slice none 0 0, .int .i64 0, .int .i64 0, cmp] u (Tells (.tuple #[]) u) := fun u => by
    go_enter Try.func33, Try.ntmps33
    go_wp2
    go_loopg [8] 0 (fun q s wx => s = .int .i64 1 ∧ wx = u)
    case atStart => exact ⟨rfl, rfl⟩
    case round =>
      obtain ⟨rfl, rfl⟩ := hrel
      go_wp2
      go_end0
      exact ⟨rfl, Ext.refl _⟩
  have h2 : ∀ u, Calls Try.prog 31 #[.slice none 0 0, .int .i64 0, cmp] u (Tells (.tuple #[]) u) := fun u => by
    go_enter Try.func31, Try.ntmps31
    go_wp2
    go_loopg [7, 8] 0 (fun q s7 s8 wx => s7 = .int .i64 0 ∧ s8 = .int .i64 20 ∧ wx = u)
    case atStart => exact ⟨rfl, rfl, rfl⟩
    case round =>
      obtain ⟨rfl, rfl, rfl⟩ := hrel
      go_wp2_with fail
      refine (h1 _).mono ?_
      rintro e w1 ⟨rfl, hx1⟩
      have HX1 := Lib.hid hx1
      clear hx1
      obtain ⟨wo, hwo⟩ : ∃ wq, wq = w1 := ⟨_, rfl⟩
      subst hwo
      go_wp2
      go_loopg [6] 0 (fun q s6 wx => s6 = .int .i64 20 ∧ wx = wo)
      case atStart => exact ⟨rfl, rfl⟩
      case round =>
        obtain ⟨rfl, hw⟩ := hrel
        have HW := Lib.hid hw
        clear hw
        go_wp2
        go_end0
        exact ⟨rfl, by rw [HW.out]; exact HX1.out⟩
  go_enter Try.func29, Try.ntmps29
  go_wp2_with fail
  refine (h2 _).mono ?_
  rintro e w1 ⟨rfl, hx1⟩
  have HX1 := Lib.hid hx1
  clear hx1
  go_wp2
  go_end0
  exact ⟨rfl, HX1.out⟩
set_option maxHeartbeats 1600000 in
theorem sc_sort (l : List Nat) (A : Option Addr) (n c : Nat) (w : World) (hn : l.length = n) (hr : FRd w A l) (hl : n ≤ 65536) : Calls Try.prog 20 #[.slice A n c] w (SortR l w) := by
  have HC := Lib.hid (sc_clone l A n c w hn hr hl)
  have HN := Lib.hid hn
  have HF := Lib.hid hr.1
  clear hn hr
  go_enter Try.func20, Try.ntmps20
  go_wp2_with fail
  refine HC.out.mono ?_
  rintro e w1 ⟨hx1, v1, rfl, hm1⟩
  rcases hm1.shape with ⟨rfl, rfl⟩ | ⟨g, c1, rfl, hg⟩
  · have HX1 := Lib.hid hx1
    clear hx1 hm1
    go_wp2_with fail
    refine (st_none _ w1).mono ?_
    rintro e w2 ⟨rfl, hx2⟩
    have HX2 := Lib.hid (HX1.out.trans hx2)
    clear hx2
    go_wp2
    go_ret
    exact ⟨none, 0, [], rfl, Nat.le_refl _, FRd.nil _ _, rfl, rfl, HX2.out⟩
  · rw [HN.out] at hm1 ⊢
    have HS := Lib.hid (st_sort cmpOk w.heap.size g n c1 l w1 hm1 HF.out hl)
    have HX1 := Lib.hid hx1
    have HG := Lib.hid hg
    clear hx1 hm1 hg
    go_wp2_with fail
    refine HS.out.mono ?_
    rintro e w2 ⟨rfl, s, ⟨hs, hp⟩, ho, hgr⟩
    have HX2 := Lib.hid (HX1.out.more hgr (fun q e => by injection e with e; rw [← e]; exact HG.out))
    have HO := Lib.hid ho
    have HP := Lib.hid hp
    have HSS := Lib.hid hs
    clear hs hp ho hgr
    go_wp2
    go_ret
    obtain ⟨B, c2, e2, hc2, hr2⟩ := FMine.slice HO.out (perm_f64 HF.out HP.out.perm)
    have hlen := HO.out.len
    rw [hlen] at e2 hc2
    refine ⟨B, c2, s, by rw [HN.out]; exact congrArg _ e2, by rw [HN.out]; exact hc2, hr2, by rw [hlen, HN.out], ?_, HX2.out⟩
    exact Fl.up_one (Fl.up_of (by rw [hlen]; exact HSS.out)) (Fl.up_sorted l) (HP.out.perm.trans (Fl.sorted_perm l).symm)
set_option maxHeartbeats 800000 in
theorem mk_nan (w : World) : Calls Try.prog 30 #[] w (Tells (.float .f64 9221120237041090561) w) := by
  have hf : ∀ W, (callFunc 32 #[.int .u64 9221120237041090561]).run Try.prog W = .ok (.value (.float .f64 9221120237041090561)) W := fun W => by
    rw [run_callFunc_extern (e := Extern.MathFloatBits.float64frombits) Try.func32 (by kernel_rfl) (by kernel_rfl) (by kernel_rfl) (by kernel_rfl)]
    show (Sem.run Try.prog (pure (Value.float .f64 9221120237041090561)) W).andThen _ = _
    simp only [Result.andThen, Sem.run_pure]
  go_enter Try.func30, Try.ntmps30
  go_wp2
  go_ret
  exact ⟨rfl, Ext.refl _⟩
set_option maxHeartbeats 1600000 in
theorem sc_mid (l : List Nat) (A : Option Addr) (n c : Nat) (w : World) (hn : l.length = n) (hr : FRd w A l) (hl : n ≤ 65536) :
    Calls Try.prog 22 #[.slice A n c] w (GivesR (fun r => (n = 0 → IsNan r) ∧ (0 < n → K r = K (co (Fl.sorted l) (n / 2)))) w) := by
  have HC := Lib.hid (fun u (hu : Ext w u) => sc_sort l A n c u hn (hr.ext hu) hl)
  have HN := Lib.hid hn
  clear hn hr
  by_cases h0 : n = 0
  · have HZ := Lib.hid h0
    have e0 : ((n : Int) == 0) = true := by simp; omega
    have e1 : decide ((n : Int) = 0) = true := decide_eq_true (by omega)
    have e2 : decide (n = 0) = true := decide_eq_true h0
    clear HC h0
    go_enter Try.func22, Try.ntmps22
    go_wp2_with fail
    refine (mk_nan _).mono ?_
    rintro e w1 ⟨rfl, hx⟩
    have HX := Lib.hid hx
    clear hx
    go_wp2
    go_ret
    exact ⟨_, rfl, by omega, ⟨fun _ => by unfold Fl.IsNan Fl.rung; omega, fun h => absurd h (by have := HZ.out; omega)⟩, HX.out⟩
  · have e0 : ((n : Int) == 0) = false := by simp; omega
    have e1 : decide ((n : Int) = 0) = false := decide_eq_false (by omega)
    have e2 : decide (n = 0) = false := decide_eq_false h0
    obtain ⟨h, hh⟩ : ∃ h, n / 2 = h := ⟨_, rfl⟩
    have z1 : Int.tdiv (n : Int) 2 = (h : Int) := by rw [← hh]; rfl
    have z2 : (n : Int) / 2 = (h : Int) := by omega
    have hhn : h < n := by omega
    have HH := Lib.hid hh
    have HZ := Lib.hid h0
    clear hh h0
    go_enter Try.func22, Try.ntmps22
    go_wp2_with fail
    refine (HC.out _ (Ext.refl _)).mono ?_
    rintro e w1 ⟨B, c2, s, rfl, hc2, hr2, hs2, hk2, hx2⟩
    rw [HN.out] at hc2 hs2 ⊢
    obtain ⟨b1, o1, rfl, hc1⟩ := hr2.2 h (by rw [hs2]; exact hhn)
    have HK := Lib.hid (keys_co hk2 h)
    have HB := Lib.hid (hr2.1 h)
    have HX2 := Lib.hid hx2
    clear hr2 hk2 hx2
    generalize co s h = y at *
    go_wp2
    go_ret
    exact ⟨_, rfl, HB.out, ⟨fun h => absurd h HZ.out, fun _ => by rw [HH.out]; exact HK.out⟩, HX2.out⟩
end Go.Proofs.Ytbgpgdbheajekaa

/-
  Layer 15's own functions do what they are to do. Conditions: those of ScoreSaid.
-/
namespace Go.Proofs.Ytbgpgdbheajekaa
open Go.RowKit
open Fl (K)

theorem scoreSaid : ScoreSaid where
  less := fun a b w _ _ => (sc_less a b w).mono fun _ _ h => h.tells
  same := fun a b w _ _ => (sc_same a b w).mono fun _ _ h => h.tells
  rate := fun fee n w _ _ _ => (sc_rate fee n w).mono fun _ _ ⟨r, m, h1, h2, h3, h4⟩ => ⟨r, h1, h2, h3, h4 ▸ (Ext.refl w).drewN m⟩
  clamp := fun x lo hi w hx hlo hhi => (sc_clamp x lo hi w).mono fun _ _ h => ⟨_, h.1, by unfold clamp; split; exact hlo; split; exact hhi; exact hx, rfl, h.tells.2⟩
  round := fun x w _ => (sc_round x w).mono fun _ _ h => h.tells
  sort := fun l A n c w hn hr _ hl => sc_sort l A n c w hn hr hl
  mid := fun l A n c w hn hr _ hl => sc_mid l A n c w hn hr hl
end Go.Proofs.Ytbgpgdbheajekaa

/-
  Rates that come in: a slice of float64 reads as a list of words. Conditions: none.
-/
namespace Go.Proofs.Ytbgpgdbheajekaa
open Go.RowKit
open Go.ChangeShapes Go.WideShapes Go.ChangeAt
open Pol (co)

theorem float_lt {b : Nat} (h : (Lit.float .f64 b).wf = true) : b < 18446744073709551616 := by simpa [Lit.wf] using h
theorem fl_u16 {n : Int} (h : (Lit.int .u16 n).wf = true) : ∃ x : Nat, n = (x : Int) ∧ x < 65536 := by
  have := bounds_u16 h
  exact ⟨n.toNat, by omega, by omega⟩
section
variable {H : Type} {enc : TypeId × Value → H} {w : World} {base : Nat} {spare : Nat → Bool} {held : Bool}
theorem trod_float {fuel : Nat} {cs : List Value} {x : DataW H × List MemPlace} (h : DataW.trod enc Try.prog w base spare held fuel 22 cs = some x) :
    ∃ b, cs = [.float .f64 b] ∧ b < 18446744073709551616 := by
  cases fuel with
  | zero => simp [DataW.trod] at h
  | succ n =>
    unfold DataW.trod at h
    rw [Try.underlying22] at h
    split at h <;> simp_all
    rename_i b hk
    exact float_lt (by rw [hk]; exact h.1.2)
theorem open_floats {fuel len cap : Nat} {a : Option Addr} {x : DataW H × List MemPlace} (h : DataW.trod enc Try.prog w base spare held fuel 32 [.slice a len cap] = some x) :
    ∃ l : List Nat, l.length = len ∧ len ≤ cap ∧ FRd w a l := by
  rcases Go.Deep.open_slice Try.underlying32 h with ⟨hcs, _⟩ | ⟨a', len', cap', m, n, D, Pl, hcs, _, hl, hcm, hm, _, hall⟩
  · simp at hcs
    obtain ⟨rfl, rfl, rfl⟩ := hcs
    exact ⟨[], rfl, Nat.le_refl _, FRd.nil _ _⟩
  · simp at hcs
    obtain ⟨rfl, rfl, rfl⟩ := hcs
    have hlm : len ≤ m := by rw [hm]; split <;> omega
    have ce : Try.prog.cellsOf 22 = 1 := by kernel_rfl
    rw [ce] at hall
    have each : ∀ i, i < len → ∃ q : Nat, q < 18446744073709551616 ∧ w.cell? (a'.add i) = some (.float .f64 q) := fun i hi => by
      obtain ⟨cs', h1, h2⟩ := hall i (by omega)
      obtain ⟨_, hlen, hcell⟩ := World.cells?_some h1
      obtain ⟨b, rfl, hb⟩ := trod_float h2
      have e0 := hcell 0 (by omega)
      rw [Go.Deep.add_add] at e0
      exact ⟨b, hb, by simpa using e0⟩
    obtain ⟨q, hq⟩ := Go.Deep.choose_lt each
    have hat : ∀ i, i < len → co ((List.range len).map q) i = q i := fun i hi => by unfold co; rw [List.getElem?_map, List.getElem?_range hi]; rfl
    refine ⟨(List.range len).map q, by simp, hl, f64_list fun y hy => ?_, fun i hi => ?_⟩
    · obtain ⟨i, hi, rfl⟩ := List.mem_map.1 hy
      exact (hq i (by simpa using hi)).1
    · have hi' : i < len := by simpa using hi
      obtain ⟨b, o, spot⟩ := a'
      have hspot : spot = none := by
        have h0 := (hq 0 (by omega)).2
        simpa [Addr.add] using World.cell?_spot h0
      subst hspot
      rw [hat i hi']
      exact ⟨b, o, rfl, by rw [← Addr.add_mid]; exact (hq i hi').2⟩
end
end Go.Proofs.Ytbgpgdbheajekaa

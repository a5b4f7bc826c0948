/-
  Part 4 of the texts that the seat's proofs stand on; each part of it begins with its own sentence and conditions. Conditions: those that each theorem names.
-/
import Derived.Test.YtbcbnpjbcjmjmaaPack3

/-
  What the statements' own 'values' of layer 4 does: a polynomial's values at the places from 1 on, some of them spoilt, and how many are wrong then. Conditions: at least one place, no more than 200; no more than 2^12 coefficients and spoilings.
-/
namespace Go.Proofs.Ytbcbnpjbcjmjmaa
open Go.RowKit
open Pol (co Sm px py Apart)
open Wel (wrongs)

/-- Points at the places from 1 on. -/
def ptsY (m : Nat) (y : Nat → Nat) : List (Nat × Nat) := (List.range m).map fun i => (i + 1, y i)
theorem ptsY_len (m : Nat) (y : Nat → Nat) : (ptsY m y).length = m := by simp [ptsY]
theorem ptsY_at (m : Nat) (y : Nat → Nat) (i : Nat) (h : i < m) : px (ptsY m y) i = i + 1 ∧ py (ptsY m y) i = y i := by
  unfold px py ptsY
  rw [List.getElem?_map, List.getElem?_range h]
  exact ⟨rfl, rfl⟩
theorem ptsY_out (m : Nat) (y : Nat → Nat) (i : Nat) (h : m ≤ i) : px (ptsY m y) i = 0 ∧ py (ptsY m y) i = 0 := by
  unfold px py
  rw [List.getElem?_eq_none (by rw [ptsY_len]; exact h)]
  exact ⟨rfl, rfl⟩
theorem ptsY_succ (m : Nat) (y : Nat → Nat) : ptsY (m + 1) y = ptsY m y ++ [(m + 1, y m)] := by
  unfold ptsY
  rw [List.range_succ, List.map_append]
  rfl
theorem ptsY_sm {m : Nat} {y : Nat → Nat} (hm : m ≤ 255) (hy : ∀ i, i < m → y i < 256) : Pol.PSm (ptsY m y) := fun i => by
  by_cases h : i < m
  · rw [(ptsY_at m y i h).1, (ptsY_at m y i h).2]
    exact ⟨by omega, hy i h⟩
  · rw [(ptsY_out m y i (by omega)).1, (ptsY_out m y i (by omega)).2]
    omega
theorem ptsY_apart (m : Nat) (y : Nat → Nat) : Apart (ptsY m y) (ptsY m y).length := fun i k hki hi e => by
  rw [ptsY_len] at hi
  rw [(ptsY_at m y i hi).1, (ptsY_at m y k (by omega)).1] at e
  omega
/-- Values behind j spoilings. -/
def spl (s : List (Nat × Nat)) (m : Nat) (y : Nat → Nat) : Nat → Nat → Nat
  | 0 => y
  | j + 1 => upd (spl s m y j) (px s j % m) (spl s m y j (px s j % m) ^^^ py s j)
theorem spl_lt {s : List (Nat × Nat)} {m : Nat} {y : Nat → Nat} (hs : ∀ i, px s i < 256 ∧ py s i < 256) (hy : ∀ i, y i < 256) : ∀ j i, spl s m y j i < 256
  | 0, i => hy i
  | j + 1, i => by
    rw [spl]
    unfold upd
    split
    · exact Gf.xor_lt _ _ (spl_lt hs hy j _) (hs j).2
    · exact spl_lt hs hy j i

/-- Block g's first 2 * m cells are the places and the values; the values may be written. -/
def PC (w : World) (g m : Nat) (y : Nat → Nat) : Prop := ∀ i, i < m → w.cell? ⟨g, i * 2, none⟩ = some (.int .u8 ((i + 1 : Nat) : Int)) ∧ w.cell? ⟨g, i * 2 + 1, none⟩ = some (.int .u8 ((y i : Nat) : Int)) ∧ w.frozen? ⟨g, i * 2 + 1, none⟩ = false
theorem PC.drewN {w : World} {g m : Nat} {y : Nat → Nat} (h : PC w g m y) (n : Nat) : PC (w.drewN n) g m y := h
theorem PC.store {w : World} {g m : Nat} {y : Nat → Nat} (h : PC w g m y) (k v : Nat) : PC (w.setCell ⟨g, k * 2 + 1, none⟩ (.int .u8 (v : Int))) g m (upd y k v) := fun i hi => by
  obtain ⟨h1, h2, h3⟩ := h i hi
  refine ⟨?_, ?_, by rw [World.frozen?_setCell]; exact h3⟩
  · rw [World.cell?_setCell_other _ _ _ _ (fun h => by injection h with _ h; omega)]; exact h1
  · unfold upd
    by_cases e : i = k
    · subst e
      rw [if_pos rfl]
      exact World.cell?_setCell_same' _ _ _ (by rw [h2]; rfl)
    · rw [if_neg e, World.cell?_setCell_other _ _ _ _ (fun h => by injection h with _ h; omega)]
      exact h2
theorem PC.reads {w : World} {g m : Nat} {y : Nat → Nat} (h : PC w g m y) (hm : m ≤ 255) (hy : ∀ i, i < m → y i < 256) : PRd w (some ⟨g, 0, none⟩) (ptsY m y) :=
  ⟨ptsY_sm hm hy, fun i hi => by
    rw [ptsY_len] at hi
    rw [(ptsY_at m y i hi).1, (ptsY_at m y i hi).2]
    refine ⟨g, 0, rfl, ?_, ?_⟩
    · rw [Nat.zero_add]; exact (h i hi).1
    · rw [Nat.zero_add]; exact (h i hi).2.1⟩
theorem PMine.pc {w : World} {base : Nat} {v : Value} {m : Nat} {y : Nat → Nat} (h : PMine w base v (ptsY m y)) (hm : 0 < m) : ∃ g c, v = .slice (some ⟨g, 0, none⟩) m c ∧ m ≤ c ∧ base ≤ g ∧ PC w g m y := by
  rcases h.2 with ⟨_, hn⟩ | ⟨g, cap, cur, rfl, hb, hg, hnc, _, _, htake⟩
  · rw [ptsY_len] at hn; omega
  · rw [ptsY_len] at hnc
    have hat : ∀ j, j < m * 2 → w.cell? ⟨g, j, none⟩ = (pv (ptsY m y))[j]? := fun j hj => by
      rw [cell_of_row w g j cur _ _ hg, ← htake, List.getElem?_take, if_pos (by rw [ptsY_len]; exact hj)]
      simp
    refine ⟨g, cap, by rw [ptsY_len], hnc, hb, fun i hi => ⟨?_, ?_, frozen_of_row w g _ cur _ hg⟩⟩
    · rw [hat _ (by omega), (pv_at _ i (by rw [ptsY_len]; exact hi)).1, (ptsY_at m y i hi).1]
    · rw [hat _ (by omega), (pv_at _ i (by rw [ptsY_len]; exact hi)).2, (ptsY_at m y i hi).2]

/-- Points, and how many are wrong. -/
def GivesV (l : List (Nat × Nat)) (a : List Nat) (w : World) (e : Ending) (w' : World) : Prop := ∃ B c, e = .returned (.tuple #[.slice B l.length c, .int .i64 ((Wel.bad l a : Nat) : Int)]) ∧ l.length ≤ c ∧ PRd w' B l ∧ Ext w w'

set_option maxHeartbeats 2000000 in
set_option maxRecDepth 100000 in
theorem law_values (f m : Nat) (a : List Nat) (s : List (Nat × Nat)) (A S : Option Addr) (ca cs : Nat) (w : World) (ha : Rd w A a) (hs : PRd w S s) (hla : a.length ≤ 4096) (hls : s.length ≤ 4096) (hm : 1 ≤ m) (hm2 : m ≤ 200) :
    Calls Try.prog 17 #[.pointer (some ⟨f, 0, none⟩), .slice A a.length ca, .int .i64 (m : Int), .slice S s.length cs] w (GivesV (ptsY m (spl s m (fun i => Pol.ev a (i + 1)) s.length)) a w) := by
  have HEV := Lib.hid (fun x W (hx : x < 256) (hW : Ext w W) => ref_eval a x A ca W (ha.ext hW) hx (by omega))
  have HEL := Lib.hid (fun x => Pol.ev_lt a x ha.1)
  have HSL := Lib.hid (fun j i => spl_lt (s := s) (m := m) (y := fun i => Pol.ev a (i + 1)) hs.1 (fun i => Pol.ev_lt a _ ha.1) j i)
  generalize a.length = na at *
  generalize hns : s.length = ns at *
  have HS := Lib.hid hs
  have HNS := Lib.hid hns
  clear ha hs hns
  go_enter Try.func17, Try.ntmps17
  go_wp2
  go_loopg [10, 18] m (fun g s10 s18 wx => ∃ k : Nat, k + g = m ∧ s18 = .int .i64 (k : Int) ∧ PMine wx w.heap.size s10 (ptsY k (fun i => Pol.ev a (i + 1))) ∧ Ext w wx)
  case atStart => exact ⟨0, by omega, rfl, PMine.nil w _, Ext.refl _⟩
  case round =>
    obtain ⟨k, hkg, rfl, him, hx⟩ := hrel
    have HIM := Lib.hid him
    have HX := Lib.hid hx
    clear him hx
    cases gk with
    | succ g =>
      have hkI : (k : Int) < (m : Int) := by omega
      have hkb : (k : Int) + 1 < 256 := by omega
      have hk0 : (0 : Int) ≤ (k : Int) + 1 := by omega
      have hev := HEV.out (k + 1) wr (by omega) HX.out
      obtain ⟨v, hv⟩ : ∃ v, Pol.ev a (k + 1) = v := ⟨_, rfl⟩
      have hvb : v < 256 := by rw [← hv]; exact HEL.out (k + 1)
      rw [hv, show ((k + 1 : Nat) : Int) = (k : Int) + 1 from rfl] at hev
      have HE := Lib.hid hev
      have hst := ptsY_succ k (fun i => Pol.ev a (i + 1))
      rw [hv] at hst
      have HST := Lib.hid hst
      have hps : Pol.PSm [(k + 1, v)] := fun i => by
        match i with
        | 0 => exact ⟨show k + 1 < 256 by omega, hvb⟩
        | i + 1 => unfold px py; simp
      have HPS := Lib.hid hps
      have HPL := Lib.hid (ptsY_len k (fun i => Pol.ev a (i + 1)))
      clear hv hst hps hev
      go_wp2_with fail
      refine HE.out.mono ?_
      rintro e w2 ⟨rfl, q, rfl⟩
      have HM2 := Lib.hid (HIM.out.kept ((Ext.refl wr).drewN q))
      have HX2 := Lib.hid (HX.out.drewN q)
      generalize wr.drewN q = W2 at HM2 HX2 ⊢
      go_wp2_with (at_builtin; refine wpList_append_prd rfl (.tmp 24) (.tmp 30) rfl w.heap.size u10 (ptsY k (fun i => Pol.ev a (i + 1))) [(k + 1, v)] rfl (HM2.out.kept ((Ext.refl _).alloc _)) (some ⟨W2.heap.size, 0, none⟩) 1 1 rfl rfl (prd_lit W2 _ HPS.out) (by rw [HPL.out]; simp; omega) (by have := HX2.out.size; simp; omega) ?_; intro v' w9 hown' hg' hat')
      have HO := Lib.hid (show PMine w9 w.heap.size v' (ptsY (k + 1) (fun i => Pol.ev a (i + 1))) from by rw [HST.out]; exact hown')
      have HX9 := Lib.hid ((HX2.out.alloc _).more hg' HM2.out.block)
      clear hown' hg' hat'
      go_wp2
      go_roundg g
      case measure => omega
      case rel => exact ⟨k + 1, by omega, by go_num, HO.out, HX9.out⟩
    | zero =>
      obtain rfl : m = k := by omega
      clear hkg
      obtain ⟨gp, cp, rfl, hcp, hgp, hpc⟩ := HIM.out.pc (by omega)
      have HPC := Lib.hid hpc
      clear hpc HIM
      have hm0 : (0 : Int) < (m : Int) := by omega
      obtain ⟨w1, hw1⟩ : ∃ w1, w1 = wr := ⟨_, rfl⟩
      subst hw1
      go_wp2
      go_loopg [35] ns (fun g s35 wx => ∃ j : Nat, j + g = ns ∧ s35 = .int .i64 (j : Int) ∧ PC wx gp m (spl s m (fun i => Pol.ev a (i + 1)) j) ∧ Ext w wx)
      case atStart => exact ⟨0, by omega, rfl, HPC.out, HX.out⟩
      case round =>
        obtain ⟨j, hjg, rfl, hpj, hxj⟩ := hrel
        have HPJ := Lib.hid hpj
        have HXJ := Lib.hid hxj
        clear hpj hxj
        cases gk with
        | succ g =>
          have hj : j < ns := by omega
          have hjI : (j : Int) < (ns : Int) := by omega
          obtain ⟨bs, os, e1, hc1, hc2⟩ := (HS.out.ext HXJ.out).2 j (by rw [HNS.out]; exact hj)
          subst e1
          obtain ⟨x, hx⟩ : ∃ x, px s j = x := ⟨_, rfl⟩
          obtain ⟨z, hz⟩ : ∃ z, py s j = z := ⟨_, rfl⟩
          have hxb := (HS.out.1 j).1
          have hzb := (HS.out.1 j).2
          rw [hx] at hc1 hxb
          rw [hz] at hc2 hzb
          obtain ⟨k, hk⟩ : ∃ k, x % m = k := ⟨_, rfl⟩
          have hkm : k < m := by rw [← hk]; exact Nat.mod_lt _ (by omega)
          have hkI : (k : Int) < (m : Int) := by omega
          have hmod : Int.tmod (x : Int) (m : Int) = (k : Int) := by rw [Int.tmod_eq_emod_of_nonneg (by omega), ← hk]; omega
          obtain ⟨h1, h2, h3⟩ := HPJ.out k hkm
          have hyb := HSL.out j k
          obtain ⟨y, hy⟩ : ∃ y, spl s m (fun i => Pol.ev a (i + 1)) j k = y := ⟨_, rfl⟩
          rw [hy] at h2 hyb
          have hxor := u8_xor_nat y z hyb hzb
          have hst := fun q => (HPJ.out.drewN q).store k (y ^^^ z)
          rw [show upd (spl s m (fun i => Pol.ev a (i + 1)) j) k (y ^^^ z) = spl s m (fun i => Pol.ev a (i + 1)) (j + 1) from by rw [spl, hx, hz, hk, hy]] at hst
          have HST := Lib.hid hst
          have HEX := Lib.hid (fun q => (HXJ.out.drewN q).setCell (p := ⟨gp, k * 2 + 1, none⟩) hgp (.int .u8 ((y ^^^ z : Nat) : Int)))
          clear hx hz hk hy hst h1
          go_wp2
          refine wp_region_quiet_tail 15 (fun w' => ∃ q, w' = wr.drewN q) (by kernel_rfl) (by kernel_rfl) ⟨1, rfl⟩ ?_
          simp only [List.take_succ_cons, List.take_zero, List.drop_succ_cons, List.drop_zero]
          repeat (quiet_step (fail))
          refine wpQuiet_nil ?_
          rintro _ ⟨q, rfl⟩
          go_wp2
          go_roundg g
          case measure => omega
          case rel => exact ⟨j + 1, by omega, by go_num, HST.out q, HEX.out q⟩
        | zero =>
          obtain rfl : ns = j := by omega
          clear hjg
          have hrd := HPJ.out.reads (by omega) (fun i _ => HSL.out ns i)
          have HRD := Lib.hid hrd
          obtain ⟨y, hy⟩ : ∃ y, spl s m (fun i => Pol.ev a (i + 1)) ns = y := ⟨_, rfl⟩
          have HY := Lib.hid hy
          rw [hy] at HRD HPJ
          clear hrd hy
          obtain ⟨w3, hw3⟩ : ∃ w3, w3 = wr := ⟨_, rfl⟩
          subst hw3
          go_wp2
          go_loopg [13, 66] m (fun g s13 s66 wx => ∃ i c q : Nat, i + g = m ∧ s66 = .int .i64 (i : Int) ∧ s13 = .int .i64 (c : Int) ∧ c = (wrongs (ptsY m y) a i).length ∧ wx = w3.drewN q)
          case atStart => exact ⟨0, 0, 0, by omega, rfl, rfl, rfl, rfl⟩
          case round =>
            obtain ⟨i, c, q, hig, rfl, rfl, hc, rfl⟩ := hrel
            have hcb : c ≤ i := by rw [hc]; exact Wel.wrongs_len _ _ _
            have HC := Lib.hid hc
            clear hc
            cases gk with
            | zero =>
              obtain rfl : m = i := by omega
              clear hig
              have hbad : c = Wel.bad (ptsY m y) a := by rw [HC.out, ← Wel.wrongs_bad, ptsY_len]
              have HB := Lib.hid hbad
              clear hbad
              go_wp2
              go_ret2
              exact ⟨some ⟨gp, 0, none⟩, cp, by rw [HY.out, ptsY_len, ← HB.out]; rfl, by rw [ptsY_len]; exact hcp, by rw [HY.out]; exact HRD.out, HXJ.out.drewN q⟩
            | succ g =>
              have hi : i < m := by omega
              have hiI : (i : Int) < (m : Int) := by omega
              obtain ⟨h1, h2, _⟩ := HPJ.out i hi
              have d1 : (w3.drewN q).cell? ⟨gp, i * 2, none⟩ = some (.int .u8 ((i : Int) + 1)) := h1
              have d2 : (w3.drewN q).cell? ⟨gp, i * 2 + 1, none⟩ = some (.int .u8 ((y i : Nat) : Int)) := h2
              have hpt := ptsY_at m y i hi
              obtain ⟨yi, hyi⟩ : ∃ yi, y i = yi := ⟨_, rfl⟩
              rw [hyi] at d2 hpt
              have hev := fun q2 => HEV.out (i + 1) ((w3.drewN q).drewN q2) (by omega) ((HXJ.out.drewN q).drewN q2)
              obtain ⟨v, hv⟩ : ∃ v, Pol.ev a (i + 1) = v := ⟨_, rfl⟩
              rw [hv, show ((i + 1 : Nat) : Int) = (i : Int) + 1 from rfl] at hev
              have HE := Lib.hid hev
              clear hev h1 h2
              generalize hW : w3.drewN q = W at d1 d2 HE ⊢
              have HW := Lib.hid hW
              clear hW
              by_cases hq : v = yi
              · have tq : ((yi : Int) != (v : Int)) = false := by subst hq; simp
                have HQ := Lib.hid (Wel.wrongs_no (l := ptsY m y) (a := a) (n := i) (by rw [hpt.1, hpt.2, hv]; exact hq))
                clear hq hv hyi hpt
                go_wp2
                go_quiet (first | (go_at_call 18; exact quiet_hands (HE.out _)))
                go_wp2
                go_roundg g
                case measure => omega
                case rel => exact ⟨i + 1, c, q + nq, by omega, by go_num, rfl, by rw [HQ.out]; exact HC.out, by rw [← HW.out, World.drewN_drewN]⟩
              · have tq : ((yi : Int) != (v : Int)) = true := by simp; omega
                have HQ := Lib.hid (Wel.wrongs_yes (l := ptsY m y) (a := a) (n := i) (by rw [hpt.1, hpt.2, hv]; exact hq))
                clear hq hv hyi hpt
                go_wp2
                go_quiet (first | (go_at_call 18; exact quiet_hands (HE.out _)))
                go_wp2
                go_roundg g
                case measure => omega
                case rel => exact ⟨i + 1, c + 1, q + nq, by omega, by go_num, by go_num, by rw [HQ.out, List.length_append, ← HC.out]; rfl, by rw [← HW.out, World.drewN_drewN]⟩
end Go.Proofs.Ytbcbnpjbcjmjmaa

/-
  The law WelchHeals, walked, under what layer 4's functions are to do. Conditions: none.
-/
namespace Go.Proofs.Ytbcbnpjbcjmjmaa
open Go.RowKit
open Pol (co Sm px py Apart)
open Wel (Ap wrongs)

set_option maxHeartbeats 800000 in
set_option maxRecDepth 100000 in
theorem heals4_big (C : WelchSaid) (A S : Option Addr) (na ca ns cs x y : Nat) (h : na < 1 ∨ 8 < na ∨ 20 < ns) (w : World) :
    Calls Try.prog 4 #[.slice A na ca, .int .u8 (x : Int), .int .u8 (y : Int), .slice S ns cs] w (Holds w) := by
  have HAW := Lib.hid (fun u => awake4 C u)
  by_cases h0 : na < 1
  · have t0 : ((na : Int) < 1) := by omega
    clear h
    go_enter Try.func4, Try.ntmps4
    go_wp2_with fail
    refine (HAW.out w).mono ?_
    rintro e w1 ⟨rfl, hx1⟩
    have HX1 := Lib.hid hx1
    clear hx1
    go_wp2_with fail
    refine (HAW.out w1).mono ?_
    rintro e w2 ⟨rfl, hx2⟩
    have HX2 := Lib.hid hx2
    clear hx2
    go_wp2
    go_ret
    exact ⟨rfl, HX1.out.trans HX2.out⟩
  · have t0 : ¬ ((na : Int) < 1) := by omega
    have d0 : decide (((na : Int) < 1)) = false := by simp; omega
    have n0 : decide (na < 1) = false := by simp; omega
    by_cases h1 : 8 < na
    · have t1 : ((8 : Int) < (na : Int)) := by omega
      clear h
      go_enter Try.func4, Try.ntmps4
      go_wp2_with fail
      refine (HAW.out w).mono ?_
      rintro e w1 ⟨rfl, hx1⟩
      have HX1 := Lib.hid hx1
      clear hx1
      go_wp2_with fail
      refine (HAW.out w1).mono ?_
      rintro e w2 ⟨rfl, hx2⟩
      have HX2 := Lib.hid hx2
      clear hx2
      go_wp2
      go_ret
      exact ⟨rfl, HX1.out.trans HX2.out⟩
    · have t1 : ¬ ((8 : Int) < (na : Int)) := by omega
      have d1 : decide (((8 : Int) < (na : Int))) = false := by simp; omega
      have n1 : decide (8 < na) = false := by simp; omega
      have t2 : ((20 : Int) < (ns : Int)) := by omega
      clear h
      go_enter Try.func4, Try.ntmps4
      go_wp2_with fail
      refine (HAW.out w).mono ?_
      rintro e w1 ⟨rfl, hx1⟩
      have HX1 := Lib.hid hx1
      clear hx1
      go_wp2_with fail
      refine (HAW.out w1).mono ?_
      rintro e w2 ⟨rfl, hx2⟩
      have HX2 := Lib.hid hx2
      clear hx2
      go_wp2
      go_ret
      exact ⟨rfl, HX1.out.trans HX2.out⟩

set_option maxHeartbeats 1600000 in
set_option maxRecDepth 100000 in
theorem heals4_small (C : WelchSaid) (a : List Nat) (x y : Nat) (s : List (Nat × Nat)) (A S : Option Addr) (ca cs : Nat) (w : World) (ha : Rd w A a) (hs : PRd w S s) (hx : x < 256) (hy : y < 256) (h1 : 1 ≤ a.length) (h2 : a.length ≤ 8) (h3 : s.length ≤ 20) :
    Calls Try.prog 4 #[.slice A a.length ca, .int .u8 (x : Int), .int .u8 (y : Int), .slice S s.length cs] w (Holds w) := by
  have HAW := Lib.hid (fun u => awake4 C u)
  obtain ⟨V, hV⟩ : ∃ V, x % 5 = V := ⟨_, rfl⟩
  obtain ⟨M, hM⟩ : ∃ M, y % 4 = M := ⟨_, rfl⟩
  have hV5 : V < 5 := by omega
  have hM4 : M < 4 := by omega
  have hmV : Int.tmod (x : Int) 5 = (V : Int) := by rw [Int.tmod_eq_emod_of_nonneg (by omega)]; omega
  have hmM : Int.tmod (y : Int) 4 = (M : Int) := by rw [Int.tmod_eq_emod_of_nonneg (by omega)]; omega
  clear hV hM
  obtain ⟨m, hm⟩ : ∃ m, a.length + 2 * V + M = m := ⟨_, rfl⟩
  obtain ⟨l, hl⟩ : ∃ l, ptsY m (spl s m (fun i => Pol.ev a (i + 1)) s.length) = l := ⟨_, rfl⟩
  have hll : l.length = m := by rw [← hl, ptsY_len]
  have hap : Apart l l.length := by rw [← hl]; exact ptsY_apart _ _
  have hvals := fun f u (hx : Ext w u) => law_values f m a s A S ca cs u (ha.ext hx) (hs.ext hx) (by omega) (by omega) (by omega) (by omega)
  rw [hl] at hvals
  have hmI : ((m : Nat) : Int) = (a.length : Int) + 2 * (V : Int) + (M : Int) := by omega
  simp only [hmI] at hvals
  have HVA := Lib.hid hvals
  have HSM := Lib.hid ha.1
  have HDE := Lib.hid (fun f B c u (hf : IsField u f) (hl : PRd u B l) (hc : l.length ≤ c) => C.dec f l a.length V B c u hf hl hc (by omega) hap (by omega) (by omega))
  have HIS := Lib.hid (fun (hp : Ap l) (hb : Wel.bad l a ≤ V) => (⟨⟨rfl, ha.1, hb⟩, by omega⟩ : Wel.Code l a.length V a ∧ a.length + 2 * V ≤ l.length))
  have HWC := Lib.hid (fun f B c D d u (hf : IsField u f) (hl : PRd u B l) (hc : l.length ≤ c) (hD : Rd u D a) (hd : a.length ≤ d) => C.wrong f l a B D c d u hf hl hD hc hd (by omega) (by omega))
  have HWR := Lib.hid (fun B c u (hx : Ext w u) (hl : PRd u B l) => ref_wrong l a B A c ca u hl (ha.ext hx) (by omega) (by omega))
  have HSA := Lib.hid (fun B c u (hx : Ext w u) (hB : Rd u B a) => same_tells a B A c ca u hB (ha.ext hx) (by omega))
  have HAP := Lib.hid hap
  have hbad := Wel.wrongs_bad l a
  obtain ⟨bd, hbd⟩ : ∃ bd, Wel.bad l a = bd := ⟨_, rfl⟩
  have hbl := Wel.wrongs_len l a l.length
  rw [hbd] at hbad HIS
  obtain ⟨ws, hws⟩ : ∃ ws, wrongs l a l.length = ws := ⟨_, rfl⟩
  rw [hws] at hbad hbl HWC HWR
  have HBD := Lib.hid hbd
  have HBB := Lib.hid hbad
  rw [hbad, hll] at hbl
  have HLL := Lib.hid hll
  simp only [hll] at HDE HWC HWR HIS
  clear ha hs hl hap hvals hmI hws hbd hbad hll
  generalize hna : a.length = na at *
  have HNA := Lib.hid hna
  generalize s.length = ns at *
  clear hna
  have t0 : ¬ ((na : Int) < 1) := by omega
  have d0 : decide (((na : Int) < 1)) = false := by simp; omega
  have n0 : decide (na < 1) = false := by simp; omega
  have t1 : ¬ ((8 : Int) < (na : Int)) := by omega
  have d1 : decide (((8 : Int) < (na : Int))) = false := by simp; omega
  have n1 : decide (8 < na) = false := by simp; omega
  have t2 : ¬ ((20 : Int) < (ns : Int)) := by omega
  have d2 : decide (((20 : Int) < (ns : Int))) = false := by simp; omega
  have n2 : decide (20 < ns) = false := by simp; omega
  go_enter Try.func4, Try.ntmps4
  go_wp2_with fail
  refine (HAW.out w).mono ?_
  rintro e w1 ⟨rfl, hx1⟩
  have HX1 := Lib.hid hx1
  clear hx1
  go_wp2_with fail
  refine (new_any w1).mono ?_
  rintro e w2 ⟨f, rfl, hf, hfs, hx2⟩
  have HF := Lib.hid hf
  have HX2 := Lib.hid (HX1.out.trans hx2)
  clear hf hx2
  go_wp2_with fail
  refine (HVA.out f w2 HX2.out).mono ?_
  rintro e w3 ⟨B3, c3, rfl, hc3, hr3, hx3⟩
  rw [HBD.out, HLL.out]
  rw [HLL.out] at hc3
  have HR3 := Lib.hid hr3
  have HX3 := Lib.hid (HX2.out.trans hx3)
  have HF3 := Lib.hid (HF.out.ext hx3)
  clear hr3 hx3 HF
  by_cases hbv : V < bd
  · have tbv : (V : Int) < (bd : Int) := by omega
    go_wp2
    go_ret
    exact ⟨rfl, HX3.out⟩
  · have tbv : ¬ (V : Int) < (bd : Int) := by omega
    have dbv : decide ((V : Int) < (bd : Int)) = false := by simp; omega
    have nbv : decide (V < bd) = false := by simp; omega
    have hAp := Wel.ap_of HR3.out.1 HAP.out
    obtain ⟨hcode, hfit⟩ := HIS.out hAp (by omega)
    have HDX := Lib.hid ((HDE.out f B3 c3 w3 HF3.out HR3.out hc3).mono fun _ _ h => h.is hAp (by rw [HLL.out]; exact hfit) hcode)
    have tbb : ((bd : Int) == (bd : Int)) = true := by simp
    clear hAp hcode hfit HDE HIS
    go_wp2_with fail
    refine (HDX.out).mono ?_
    rintro e w4 ⟨v4, rfl, ⟨B4, c4, rfl, hc4, hr4⟩, hx4⟩
    rw [HNA.out] at hc4 ⊢
    have HR4 := Lib.hid hr4
    have HX4 := Lib.hid (HX3.out.trans hx4)
    have HF4 := Lib.hid (HF3.out.ext hx4)
    have HP4 := Lib.hid (HR3.out.ext hx4)
    clear hr4 hx4 HDX
    go_wp2_with fail
    refine (HSA.out B4 c4 w4 HX4.out HR4.out).mono ?_
    rintro e w5 ⟨rfl, hx5⟩
    have HX5 := Lib.hid (HX4.out.trans hx5)
    have HF5 := Lib.hid (HF4.out.ext hx5)
    have HP5 := Lib.hid (HP4.out.ext hx5)
    have HR5 := Lib.hid (HR4.out.ext hx5)
    clear hx5
    go_wp2_with fail
    refine (HWC.out f B3 c3 B4 c4 w5 HF5.out HP5.out hc3 HR5.out hc4).mono ?_
    rintro e w6 ⟨B6, c6, rfl, hc6, hr6, hx6⟩
    rw [HBB.out] at hc6 ⊢
    have HR6 := Lib.hid hr6
    have HX6 := Lib.hid (HX5.out.trans hx6)
    have HF6 := Lib.hid (HF5.out.ext hx6)
    have HP6 := Lib.hid (HP5.out.ext hx6)
    have HA6 := Lib.hid (HR5.out.ext hx6)
    clear hr6 hx6
    go_wp2_with fail
    refine (HWR.out B3 c3 w6 HX6.out HP6.out).mono ?_
    rintro e w7 ⟨B7, c7, rfl, hc7, hr7, hx7⟩
    rw [HBB.out] at hc7 ⊢
    have HR7 := Lib.hid hr7
    have HR8 := Lib.hid (HR6.out.ext hx7)
    have HX7 := Lib.hid (HX6.out.trans hx7)
    have HF7 := Lib.hid (HF6.out.ext hx7)
    have HP7 := Lib.hid (HP6.out.ext hx7)
    have HA7 := Lib.hid (HA6.out.ext hx7)
    clear hr7 hx7
    have hin := ints_true ws B6 B7 c6 c7 w7 HR8.out HR7.out (by rw [HBB.out]; omega)
    rw [HBB.out] at hin
    have HIN := Lib.hid hin
    clear hin
    go_wp2_with fail
    refine (HIN.out).mono ?_
    rintro e w8 ⟨rfl, q, rfl⟩
    have HX8 := Lib.hid (HX7.out.drewN q)
    have HF8 := Lib.hid (HF7.out.drewN q)
    have HP8 := Lib.hid (HP7.out.drewN q)
    have HA8 := Lib.hid (HA7.out.drewN q)
    go_wp2_with fail
    refine (HWC.out f B3 c3 B4 c4 (w7.drewN q) HF8.out HP8.out hc3 HA8.out hc4).mono ?_
    rintro e w9 ⟨B9, c9, rfl, hc9, hr9, hx9⟩
    rw [HBB.out] at hc9 ⊢
    have HX9 := Lib.hid (HX8.out.trans hx9)
    clear hr9 hx9
    go_wp2
    go_ret
    exact ⟨rfl, HX9.out⟩
theorem heals4_walk (C : WelchSaid) (a : List Nat) (x y : Nat) (s : List (Nat × Nat)) (A S : Option Addr) (ca cs : Nat) (w : World) (ha : Rd w A a) (hs : PRd w S s) (hx : x < 256) (hy : y < 256) :
    Calls Try.prog 4 #[.slice A a.length ca, .int .u8 (x : Int), .int .u8 (y : Int), .slice S s.length cs] w (Holds w) := by
  by_cases h : a.length < 1 ∨ 8 < a.length ∨ 20 < s.length
  · exact heals4_big C A S _ ca _ cs x y h w
  · exact heals4_small C a x y s A S ca cs w ha hs hx hy (by omega) (by omega) (by omega)
end Go.Proofs.Ytbcbnpjbcjmjmaa

/-
  The law WelchHonest, walked, under what layer 4's functions are to do. Conditions: none.
-/
namespace Go.Proofs.Ytbcbnpjbcjmjmaa
open Go.RowKit
open Pol (co Sm px py Apart)
open Wel (Ap wrongs)

set_option maxHeartbeats 800000 in
set_option maxRecDepth 100000 in
theorem honest4_big (C : WelchSaid) (A S : Option Addr) (na ca ns cs x : Nat) (h : na < 1 ∨ 5 < na ∨ 20 < ns) (w : World) :
    Calls Try.prog 5 #[.slice A na ca, .int .u8 (x : Int), .slice S ns cs] w (Holds w) := by
  have HAW := Lib.hid (fun u => awake4 C u)
  by_cases h0 : na < 1
  · have t0 : ((na : Int) < 1) := by omega
    clear h
    go_enter Try.func5, Try.ntmps5
    go_wp2_with fail
    refine (HAW.out w).mono ?_
    rintro e w1 ⟨rfl, hx1⟩
    have HX1 := Lib.hid hx1
    clear hx1
    go_wp2_with fail
    refine (HAW.out w1).mono ?_
    rintro e w2 ⟨rfl, hx2⟩
    have HX2 := Lib.hid hx2
    clear hx2
    go_wp2
    go_ret
    exact ⟨rfl, HX1.out.trans HX2.out⟩
  · have t0 : ¬ ((na : Int) < 1) := by omega
    have d0 : decide (((na : Int) < 1)) = false := by simp; omega
    have n0 : decide (na < 1) = false := by simp; omega
    by_cases h1 : 5 < na
    · have t1 : ((5 : Int) < (na : Int)) := by omega
      clear h
      go_enter Try.func5, Try.ntmps5
      go_wp2_with fail
      refine (HAW.out w).mono ?_
      rintro e w1 ⟨rfl, hx1⟩
      have HX1 := Lib.hid hx1
      clear hx1
      go_wp2_with fail
      refine (HAW.out w1).mono ?_
      rintro e w2 ⟨rfl, hx2⟩
      have HX2 := Lib.hid hx2
      clear hx2
      go_wp2
      go_ret
      exact ⟨rfl, HX1.out.trans HX2.out⟩
    · have t1 : ¬ ((5 : Int) < (na : Int)) := by omega
      have d1 : decide (((5 : Int) < (na : Int))) = false := by simp; omega
      have n1 : decide (5 < na) = false := by simp; omega
      have t2 : ((20 : Int) < (ns : Int)) := by omega
      clear h
      go_enter Try.func5, Try.ntmps5
      go_wp2_with fail
      refine (HAW.out w).mono ?_
      rintro e w1 ⟨rfl, hx1⟩
      have HX1 := Lib.hid hx1
      clear hx1
      go_wp2_with fail
      refine (HAW.out w1).mono ?_
      rintro e w2 ⟨rfl, hx2⟩
      have HX2 := Lib.hid hx2
      clear hx2
      go_wp2
      go_ret
      exact ⟨rfl, HX1.out.trans HX2.out⟩

set_option maxHeartbeats 1600000 in
set_option maxRecDepth 100000 in
theorem honest4_small (C : WelchSaid) (a : List Nat) (x : Nat) (s : List (Nat × Nat)) (A S : Option Addr) (ca cs : Nat) (w : World) (ha : Rd w A a) (hs : PRd w S s) (hx : x < 256) (h1 : 1 ≤ a.length) (h2 : a.length ≤ 5) (h3 : s.length ≤ 20) :
    Calls Try.prog 5 #[.slice A a.length ca, .int .u8 (x : Int), .slice S s.length cs] w (Holds w) := by
  have HAW := Lib.hid (fun u => awake4 C u)
  obtain ⟨V, hV⟩ : ∃ V, x % 4 = V := ⟨_, rfl⟩
  have hV5 : V < 4 := by omega
  have hmV : Int.tmod (x : Int) 4 = (V : Int) := by rw [Int.tmod_eq_emod_of_nonneg (by omega)]; omega
  clear hV
  obtain ⟨m, hm⟩ : ∃ m, a.length + 2 * V = m := ⟨_, rfl⟩
  obtain ⟨l, hl⟩ : ∃ l, ptsY m (spl s m (fun i => Pol.ev a (i + 1)) s.length) = l := ⟨_, rfl⟩
  have hll : l.length = m := by rw [← hl, ptsY_len]
  have hap : Apart l l.length := by rw [← hl]; exact ptsY_apart _ _
  have hvals := fun f u (hx : Ext w u) => law_values f m a s A S ca cs u (ha.ext hx) (hs.ext hx) (by omega) (by omega) (by omega) (by omega)
  rw [hl] at hvals
  have hmI : ((m : Nat) : Int) = (a.length : Int) + 2 * (V : Int) := by omega
  simp only [hmI] at hvals
  have HVA := Lib.hid hvals
  have HSM := Lib.hid ha.1
  have HDE := Lib.hid (fun f B c u (hf : IsField u f) (hl : PRd u B l) (hc : l.length ≤ c) => C.dec f l a.length V B c u hf hl hc (by omega) hap (by omega) (by omega))
  have HIS := Lib.hid (fun (hp : Ap l) (hb : Wel.bad l a ≤ V) => (⟨⟨rfl, ha.1, hb⟩, by omega⟩ : Wel.Code l a.length V a ∧ a.length + 2 * V ≤ l.length))
  have HWC := Lib.hid (fun f B c D d u (hf : IsField u f) (hl : PRd u B l) (hc : l.length ≤ c) (hD : Rd u D a) (hd : a.length ≤ d) => C.wrong f l a B D c d u hf hl hD hc hd (by omega) (by omega))
  have HWR := Lib.hid (fun B c u (hx : Ext w u) (hl : PRd u B l) => ref_wrong l a B A c ca u hl (ha.ext hx) (by omega) (by omega))
  have HSA := Lib.hid (fun B c u (hx : Ext w u) (hB : Rd u B a) => same_tells a B A c ca u hB (ha.ext hx) (by omega))
  have HAP := Lib.hid hap
  have hbad := Wel.wrongs_bad l a
  obtain ⟨bd, hbd⟩ : ∃ bd, Wel.bad l a = bd := ⟨_, rfl⟩
  have hbl := Wel.wrongs_len l a l.length
  rw [hbd] at hbad HIS
  obtain ⟨ws, hws⟩ : ∃ ws, wrongs l a l.length = ws := ⟨_, rfl⟩
  rw [hws] at hbad hbl HWC HWR
  have HBD := Lib.hid hbd
  have HBB := Lib.hid hbad
  rw [hbad, hll] at hbl
  have HLL := Lib.hid hll
  simp only [hll] at HDE HWC HWR HIS
  clear ha hs hl hap hvals hmI hws hbd hbad hll
  generalize hna : a.length = na at *
  have HNA := Lib.hid hna
  generalize s.length = ns at *
  clear hna
  have t0 : ¬ ((na : Int) < 1) := by omega
  have d0 : decide (((na : Int) < 1)) = false := by simp; omega
  have n0 : decide (na < 1) = false := by simp; omega
  have t1 : ¬ ((5 : Int) < (na : Int)) := by omega
  have d1 : decide (((5 : Int) < (na : Int))) = false := by simp; omega
  have n1 : decide (5 < na) = false := by simp; omega
  have t2 : ¬ ((20 : Int) < (ns : Int)) := by omega
  have d2 : decide (((20 : Int) < (ns : Int))) = false := by simp; omega
  have n2 : decide (20 < ns) = false := by simp; omega
  go_enter Try.func5, Try.ntmps5
  go_wp2_with fail
  refine (HAW.out w).mono ?_
  rintro e w1 ⟨rfl, hx1⟩
  have HX1 := Lib.hid hx1
  clear hx1
  go_wp2_with fail
  refine (new_any w1).mono ?_
  rintro e w2 ⟨f, rfl, hf, hfs, hx2⟩
  have HF := Lib.hid hf
  have HX2 := Lib.hid (HX1.out.trans hx2)
  clear hf hx2
  go_wp2_with fail
  refine (HVA.out f w2 HX2.out).mono ?_
  rintro e w3 ⟨B3, c3, rfl, hc3, hr3, hx3⟩
  rw [HBD.out, HLL.out]
  rw [HLL.out] at hc3
  have HR3 := Lib.hid hr3
  have HX3 := Lib.hid (HX2.out.trans hx3)
  have HF3 := Lib.hid (HF.out.ext hx3)
  clear hr3 hx3 HF
  have hAp := Wel.ap_of HR3.out.1 HAP.out
  have HDX := Lib.hid (HDE.out f B3 c3 w3 HF3.out HR3.out hc3)
  have HAA := Lib.hid hAp
  clear hAp
  go_wp2_with fail
  refine HDX.out.mono ?_
  rintro e w4 (⟨z, hz, v4, rfl, ⟨B4, c4, rfl, hc4, hr4⟩, hx4⟩ | ⟨hno, v4, rfl, ⟨B4, c4, rfl, hc4, hr4⟩, hx4⟩)
  · have hzl := hz.len
    have hzb := hz.few
    rw [hzl] at hc4 ⊢
    have HZ := Lib.hid hz
    have HZL := Lib.hid hzl
    have HR4 := Lib.hid hr4
    have HX4 := Lib.hid (HX3.out.trans hx4)
    have HF4 := Lib.hid (HF3.out.ext hx4)
    have HP4 := Lib.hid (HR3.out.ext hx4)
    have hwz := C.wrong f l z B3 B4 c3 c4 w4 HF4.out HP4.out HR4.out (by rw [HLL.out]; exact hc3) (by rw [HZL.out]; exact hc4) (by rw [HLL.out]; omega) (by rw [HZL.out]; omega)
    have hbz := Wel.wrongs_bad l z
    obtain ⟨bz, hbz2⟩ : ∃ bz, Wel.bad l z = bz := ⟨_, rfl⟩
    rw [hbz2] at hbz hzb
    rw [HLL.out] at hwz hbz
    rw [HZL.out] at hwz
    have HWZ := Lib.hid hwz
    have HBZ := Lib.hid hbz
    have tnn : ((na : Int) == (na : Int)) = true := by simp
    have tbz : (bz : Int) ≤ (V : Int) := by omega
    clear hz hzl hr4 hx4 hwz hbz hbz2
    go_wp2_with fail
    refine HWZ.out.mono ?_
    rintro e w5 ⟨B5, c5, rfl, hc5, hr5, hx5⟩
    rw [HBZ.out] at hc5 ⊢
    have HX5 := Lib.hid (HX4.out.trans hx5)
    have HR5 := Lib.hid (HR4.out.ext hx5)
    clear hr5 hx5
    by_cases hbv : V < bd
    · have tbv : (V : Int) < (bd : Int) := by omega
      go_wp2
      go_ret
      exact ⟨rfl, HX5.out⟩
    · have tbv : ¬ (V : Int) < (bd : Int) := by omega
      have dbv : decide ((V : Int) < (bd : Int)) = false := by simp; omega
      have nbv : decide (V < bd) = false := by simp; omega
      obtain ⟨hcode, hfit⟩ := HIS.out HAA.out (by omega)
      have hza : z = a := HZ.out.one HAA.out (by rw [HLL.out]; exact hfit) hcode
      subst hza
      have HSX := Lib.hid (HSA.out B4 c4 w5 HX5.out HR5.out)
      clear hcode hfit
      go_wp2_with fail
      refine HSX.out.mono ?_
      rintro e w6 ⟨rfl, hx6⟩
      have HX6 := Lib.hid (HX5.out.trans hx6)
      clear hx6
      go_wp2
      go_ret
      exact ⟨rfl, HX6.out⟩
  · have hbv : V < bd := by
      apply Classical.byContradiction
      intro hn
      exact hno a (HIS.out HAA.out (by omega)).1
    have tbv : (V : Int) < (bd : Int) := by omega
    have HX4 := Lib.hid (HX3.out.trans hx4)
    clear hno hr4 hx4
    go_wp2
    go_ret
    exact ⟨rfl, HX4.out⟩
theorem honest4_walk (C : WelchSaid) (a : List Nat) (x : Nat) (s : List (Nat × Nat)) (A S : Option Addr) (ca cs : Nat) (w : World) (ha : Rd w A a) (hs : PRd w S s) (hx : x < 256) :
    Calls Try.prog 5 #[.slice A a.length ca, .int .u8 (x : Int), .slice S s.length cs] w (Holds w) := by
  by_cases h : a.length < 1 ∨ 5 < a.length ∨ 20 < s.length
  · exact honest4_big C A S _ ca _ cs x h w
  · exact honest4_small C a x s A S ca cs w ha hs hx (by omega) (by omega) (by omega)
end Go.Proofs.Ytbcbnpjbcjmjmaa

/-
  The law WelchOrder, walked, under what layer 4's functions are to do. Conditions: none.
-/
namespace Go.Proofs.Ytbcbnpjbcjmjmaa
open Go.RowKit
open Pol (co Sm px py Apart)
open Wel (Ap wrongs)

/-- The first k points from the end on. -/
def bkp (l : List (Nat × Nat)) (k : Nat) : List (Nat × Nat) := l.reverse.take k
theorem bkp_len (l : List (Nat × Nat)) (k : Nat) (h : k ≤ l.length) : (bkp l k).length = k := by unfold bkp; rw [List.length_take, List.length_reverse]; omega
theorem bkp_step (l : List (Nat × Nat)) (k : Nat) (h : k < l.length) : bkp l (k + 1) = bkp l k ++ [(px l (l.length - 1 - k), py l (l.length - 1 - k))] := by
  unfold bkp
  have hr : k < l.reverse.length := by rw [List.length_reverse]; exact h
  rw [List.take_succ_eq_append_getElem hr, List.getElem_reverse, (Wel.px_at l (l.length - 1 - k) (by omega)).1, (Wel.px_at l (l.length - 1 - k) (by omega)).2]
theorem bkp_all (l : List (Nat × Nat)) : bkp l l.length = l.reverse := List.take_of_length_le (by rw [List.length_reverse]; exact Nat.le_refl _)
theorem psm_of_mem {l : List (Nat × Nat)} (h : ∀ p ∈ l, p.1 < 256 ∧ p.2 < 256) : Pol.PSm l := fun i => by
  by_cases hi : i < l.length
  · rw [(Wel.px_at l i hi).1, (Wel.px_at l i hi).2]
    exact h _ (List.getElem_mem hi)
  · unfold px py
    rw [List.getElem?_eq_none (by omega)]
    exact ⟨by decide, by decide⟩
theorem psm_mem {l : List (Nat × Nat)} (h : Pol.PSm l) : ∀ p ∈ l, p.1 < 256 ∧ p.2 < 256 := fun p hp => by
  obtain ⟨i, hi, rfl⟩ := List.mem_iff_getElem.1 hp
  have := h i
  rwa [(Wel.px_at l i hi).1, (Wel.px_at l i hi).2] at this
theorem bkp_sm {l : List (Nat × Nat)} (h : Pol.PSm l) (k : Nat) : Pol.PSm (bkp l k) := psm_of_mem fun p hp => psm_mem h p (List.mem_reverse.1 (List.mem_of_mem_take hp))
theorem bad_reverse (l : List (Nat × Nat)) (a : List Nat) : Wel.bad l.reverse a = Wel.bad l a := by unfold Wel.bad; rw [List.filter_reverse, List.length_reverse]
theorem code_reverse {l : List (Nat × Nat)} {k v : Nat} {a : List Nat} : Wel.Code l.reverse k v a ↔ Wel.Code l k v a :=
  ⟨fun h => ⟨h.len, h.sm, by have := h.few; rwa [bad_reverse] at this⟩, fun h => ⟨h.len, h.sm, by rw [bad_reverse]; exact h.few⟩⟩
theorem apart_reverse {l : List (Nat × Nat)} (hs : Pol.PSm l) (h : Apart l l.length) : Apart l.reverse l.reverse.length := by
  have hap := Wel.ap_of hs h
  have hr : Ap l.reverse := ⟨by rw [List.map_reverse]; exact List.pairwise_reverse.2 (hap.one.imp fun h => h.symm), fun p hp => hap.sm p (List.mem_reverse.1 hp)⟩
  exact hr.apart
theorem fine_reverse {l : List (Nat × Nat)} (hs : Pol.PSm l) {k v : Int} : Fine l.reverse k v ↔ Fine l k v := by
  unfold Fine
  constructor
  · rintro ⟨h, h'⟩
    have := apart_reverse (l := l.reverse) (psm_of_mem fun p hp => psm_mem hs p (List.mem_reverse.1 hp)) h
    rw [List.reverse_reverse] at this
    rw [List.length_reverse] at h'
    exact ⟨this, h'⟩
  · rintro ⟨h, h'⟩
    refine ⟨apart_reverse hs h, ?_⟩
    rw [List.length_reverse]
    exact h'
theorem Dn.reverse {l : List (Nat × Nat)} {k v : Int} {x : List Nat} {n : Int} (hs : Pol.PSm l) (h : Dn l k v x n) : Dn l.reverse k v x n := by
  cases h with
  | code hf hc => exact .code ((fine_reverse hs).2 hf) (code_reverse.2 hc)
  | vain hf hn => exact .vain ((fine_reverse hs).2 hf) fun a ha => hn a (code_reverse.1 ha)
  | odd ho => exact .odd fun h => ho ((fine_reverse hs).1 h)
/-- With one wrong point less the same comes, or none. -/
theorem Dn.less {l : List (Nat × Nat)} {k v : Int} {x : List Nat} (hs : Pol.PSm l) (h : Dn l k v x 0) (hv : v ≠ 0) : In64 v → In64 (v - 1) ∧ (Dn l k (v - 1) [] 15 ∨ Dn l k (v - 1) x 0) := by
  intro hin
  cases h with
  | code hf hc =>
    have hf' : Fine l k (v - 1) := by obtain ⟨h1, h2, h3, h4⟩ := hf; exact ⟨h1, h2, by omega, by omega⟩
    have hv0 : 0 ≤ v := hf.2.2.1
    refine ⟨by unfold In64 at *; omega, ?_⟩
    by_cases he : ∃ a, Wel.Code l k.toNat (v - 1).toNat a
    · obtain ⟨a, ha⟩ := he
      have ha' : Wel.Code l k.toNat v.toNat a := ⟨ha.len, ha.sm, by have := ha.few; omega⟩
      have e := ha'.one (hf.ap hs) hf.nat.2.2.2 hc
      subst e
      exact .inr (.code hf' ha)
    · exact .inl (.vain hf' fun a ha => he ⟨a, ha⟩)

set_option maxHeartbeats 800000 in
set_option maxRecDepth 100000 in
theorem order4_big (C : WelchSaid) (A : Option Addr) (nl ca : Nat) (k v : Int) (h : 20 < nl) (w : World) :
    Calls Try.prog 6 #[.slice A nl ca, .int .i64 k, .int .i64 v] w (Holds w) := by
  have HAW := Lib.hid (fun u => awake4 C u)
  have t0 : ((20 : Int) < (nl : Int)) := by omega
  clear h
  go_enter Try.func6, Try.ntmps6
  go_wp2_with fail
  refine (HAW.out w).mono ?_
  rintro e w1 ⟨rfl, hx1⟩
  have HX1 := Lib.hid hx1
  clear hx1
  go_wp2_with fail
  refine (HAW.out w1).mono ?_
  rintro e w2 ⟨rfl, hx2⟩
  have HX2 := Lib.hid hx2
  clear hx2
  go_wp2
  go_ret
  exact ⟨rfl, HX1.out.trans HX2.out⟩

set_option maxHeartbeats 1600000 in
set_option maxRecDepth 100000 in
theorem order4_small (C : WelchSaid) (l : List (Nat × Nat)) (k v : Int) (A : Option Addr) (ca : Nat) (w : World) (hl : PRd w A l) (hca : l.length ≤ ca) (hk : In64 k) (hv : In64 v) (h1 : l.length ≤ 20) (x : List Nat) (n : Int) (hdn : Dn l k v x n) :
    Calls Try.prog 6 #[.slice A l.length ca, .int .i64 k, .int .i64 v] w (Holds w) := by
  have HAW := Lib.hid (fun u => awake4 C u)
  have hxl := hdn.len
  have HDC := Lib.hid (fun f u (hx : Ext w u) (hf : IsField u f) => hdn.call C f A ca u hf (hl.ext hx) hca (by omega) hk hv)
  have hrev := hdn.reverse hl.1
  have HDR := Lib.hid (fun f B c u (hf : IsField u f) (hB : PRd u B l.reverse) (hc : l.reverse.length ≤ c) => hrev.call C f B c u hf hB hc (by rw [List.length_reverse]; omega) hk hv)
  simp only [List.length_reverse] at HDR
  have HSM := Lib.hid (bkp_sm hl.1)
  have HST := Lib.hid (bkp_step l)
  have HBL := Lib.hid (bkp_len l)
  have HBA := Lib.hid (bkp_all l)
  have HL := Lib.hid hl
  have HDN := Lib.hid hdn
  have HCA := Lib.hid (fun f u (hx : Ext w u) (hf : IsField u f) (v' : Int) (x' : List Nat) (n' : Int) (h : Dn l k v' x' n') (hi : In64 v') => h.call C f A ca u hf (hl.ext hx) hca (by omega) hk hi)
  have HIN := Lib.hid hv
  generalize hnl : l.length = nl at *
  have HNL := Lib.hid hnl
  have tn : (n != n) = false := by simp
  clear hl hdn hrev hk hv hnl
  have t0 : ¬ ((20 : Int) < (nl : Int)) := by omega
  have d0 : decide (((20 : Int) < (nl : Int))) = false := by simp; omega
  have n0 : decide (20 < nl) = false := by simp; omega
  go_enter Try.func6, Try.ntmps6
  go_wp2_with fail
  refine (HAW.out w).mono ?_
  rintro e w1 ⟨rfl, hx1⟩
  have HX1 := Lib.hid hx1
  clear hx1
  go_wp2_with fail
  refine (new_any w1).mono ?_
  rintro e w2 ⟨f, rfl, hf, hfs, hx2⟩
  have HF := Lib.hid hf
  have HX2 := Lib.hid (HX1.out.trans hx2)
  clear hf hx2
  go_wp2
  go_loopg [8, 27] nl (fun g s8 s27 wx => ∃ i : Nat, i + g = nl ∧ s27 = .int .i64 (i : Int) ∧ PMine wx w2.heap.size s8 (bkp l i) ∧ Ext w2 wx)
  case atStart => exact ⟨0, by omega, rfl, PMine.nil _ _, Ext.refl _⟩
  case round =>
    obtain ⟨i, hig, rfl, hpm, hx⟩ := hrel
    have HPM := Lib.hid hpm
    have HX := Lib.hid hx
    clear hpm hx
    cases gk with
    | succ g =>
      have hi : i < nl := by omega
      have hiI : (i : Int) < (nl : Int) := by omega
      obtain ⟨j, hj⟩ : ∃ j, nl - 1 - i = j := ⟨_, rfl⟩
      have hjI : (nl : Int) - 1 - (i : Int) = (j : Int) := by omega
      have hjn : (j : Int) < (nl : Int) := by omega
      have hj0 : j < nl := by omega
      have hst := HST.out i hi
      rw [hj] at hst
      have hbl := HBL.out i (by omega)
      obtain ⟨b1, o1, e1, hc1, hc2⟩ := (HL.out.ext (HX2.out.trans HX.out)).2 j (by rw [HNL.out]; exact hj0)
      subst e1
      have hps : Pol.PSm [(px l j, py l j)] := fun i => by
        match i with
        | 0 => exact HL.out.1 j
        | i + 1 => unfold px py; simp
      have HPS := Lib.hid hps
      have HSS := Lib.hid hst
      have HBB := Lib.hid hbl
      clear hps hst hj hbl
      go_wp2_with (at_builtin; refine wpList_append_prd rfl (.tmp 30) (.tmp 39) rfl w2.heap.size u8 (bkp l i) [(px l j, py l j)] rfl (HPM.out.kept ((Ext.refl _).alloc _)) (some ⟨wr.heap.size, 0, none⟩) 1 1 rfl rfl (prd_lit wr _ HPS.out) (by rw [HBB.out]; simp; omega) (by have := HX.out.size; simp; omega) ?_; intro v' w9 hown' hg' hat')
      have HO := Lib.hid (show PMine w9 w2.heap.size v' (bkp l (i + 1)) from by rw [HSS.out]; exact hown')
      have HX9 := Lib.hid ((HX.out.alloc _).more hg' HPM.out.block)
      clear hown' hg' hat'
      go_wp2
      go_roundg g
      case measure => omega
      case rel => exact ⟨i + 1, by omega, by go_num, HO.out, HX9.out⟩
    | zero =>
      obtain rfl : nl = i := by omega
      clear hig
      obtain ⟨B8, c8, rfl, hc8, hr8⟩ := HPM.out.slice (HSM.out nl)
      rw [HBL.out nl (Nat.le_refl _)] at hc8 ⊢
      have hbr : bkp l nl = l.reverse := HBA.out
      rw [hbr] at hr8
      have HR8 := Lib.hid hr8
      have HXX := Lib.hid (HX2.out.trans HX.out)
      have HFF := Lib.hid (HF.out.ext HX.out)
      obtain ⟨w3, hw3⟩ : ∃ w3, w3 = wr := ⟨_, rfl⟩
      subst hw3
      clear hr8 hbr HPM
      go_wp2_with fail
      refine (HDC.out f w3 HXX.out HFF.out).mono ?_
      rintro e w4 ⟨v4, rfl, ⟨B4, c4, rfl, hc4, hr4⟩, hx4⟩
      have HR4 := Lib.hid hr4
      have HX4 := Lib.hid (HXX.out.trans hx4)
      have HF4 := Lib.hid (HFF.out.ext hx4)
      have HP4 := Lib.hid (HR8.out.ext hx4)
      clear hr4 hx4
      go_wp2_with fail
      refine (HDR.out f B8 c8 w4 HF4.out HP4.out hc8).mono ?_
      rintro e w5 ⟨v5, rfl, ⟨B5, c5, rfl, hc5, hr5⟩, hx5⟩
      have HR5 := Lib.hid hr5
      have HA5 := Lib.hid (HR4.out.ext hx5)
      have HX5 := Lib.hid (HX4.out.trans hx5)
      have HF5 := Lib.hid (HF4.out.ext hx5)
      clear hr5 hx5
      go_wp2_with fail
      refine (same_tells x B4 B5 c4 c5 w5 HA5.out HR5.out (by omega)).mono ?_
      rintro e w6 ⟨rfl, hx6⟩
      have HX6 := Lib.hid (HX5.out.trans hx6)
      have HF6 := Lib.hid (HF5.out.ext hx6)
      have HA6 := Lib.hid (HA5.out.ext hx6)
      clear hx6
      by_cases hn : n = 0
      · subst hn
        by_cases hv0 : v = 0
        · have tv : (v == 0) = true := by simp [hv0]
          clear hv0
          go_wp2
          go_ret
          exact ⟨rfl, HX6.out⟩
        · have tv : (v == 0) = false := by simp [hv0]
          obtain ⟨hi1, hless⟩ := HDN.out.less HL.out.1 hv0 HIN.out
          have hvb : -9223372036854775808 ≤ v - 1 ∧ v - 1 < 9223372036854775808 := hi1
          obtain ⟨hv1, hv2⟩ := hvb
          rcases hless with hd | hd
          · have HCC := Lib.hid (HCA.out f w6 HX6.out HF6.out (v - 1) _ _ hd hi1)
            clear hv0 hd hi1 HCA
            go_wp2_with fail
            refine HCC.out.mono ?_
            rintro e w7 ⟨v7, rfl, ⟨B7, c7, rfl, hc7, hr7⟩, hx7⟩
            have HX7 := Lib.hid (HX6.out.trans hx7)
            clear hr7 hx7
            go_wp2
            go_ret
            exact ⟨rfl, HX7.out⟩
          · have HCC := Lib.hid (HCA.out f w6 HX6.out HF6.out (v - 1) _ _ hd hi1)
            clear hv0 hd hi1 HCA
            go_wp2_with fail
            refine HCC.out.mono ?_
            rintro e w7 ⟨v7, rfl, ⟨B7, c7, rfl, hc7, hr7⟩, hx7⟩
            have HX7 := Lib.hid (HX6.out.trans hx7)
            have HR7 := Lib.hid hr7
            have HA7 := Lib.hid (HA6.out.ext hx7)
            clear hr7 hx7
            go_wp2_with fail
            refine (same_tells x B7 B4 c7 c4 w7 HR7.out HA7.out (by omega)).mono ?_
            rintro e w8 ⟨rfl, hx8⟩
            have HX8 := Lib.hid (HX7.out.trans hx8)
            clear hx8
            go_wp2
            go_ret
            exact ⟨rfl, HX8.out⟩
      · have tn0 : (n != 0) = true := by simp [hn]
        clear hn
        go_wp2
        go_ret
        exact ⟨rfl, HX6.out⟩
theorem order4_walk (C : WelchSaid) (l : List (Nat × Nat)) (k v : Int) (A : Option Addr) (ca : Nat) (w : World) (hl : PRd w A l) (hca : l.length ≤ ca) (hk : In64 k) (hv : In64 v) :
    Calls Try.prog 6 #[.slice A l.length ca, .int .i64 k, .int .i64 v] w (Holds w) := by
  by_cases h : 20 < l.length
  · exact order4_big C A _ ca k v h w
  · obtain ⟨x, n, hdn⟩ := dn_is l k v
    exact order4_small C l k v A ca w hl hca hk hv (by omega) x n hdn
end Go.Proofs.Ytbcbnpjbcjmjmaa

/-
  The law WelchWrong, walked, under what layer 4's functions are to do. Conditions: none.
-/
namespace Go.Proofs.Ytbcbnpjbcjmjmaa
open Go.RowKit
open Pol (co Sm px py Apart)
open Wel (Ap wrongs miss)

theorem wrongs_more (l : List (Nat × Nat)) (a : List Nat) (i : Nat) : ∀ d, ∃ R, wrongs l a (i + d) = wrongs l a i ++ R ∧ ∀ x ∈ R, Pol.ev a (px l x) ≠ py l x
  | 0 => ⟨[], by rw [List.append_nil]; rfl, fun x hx => by cases hx⟩
  | d + 1 => by
    obtain ⟨R, h1, h2⟩ := wrongs_more l a i d
    by_cases h : Pol.ev a (px l (i + d)) = py l (i + d)
    · exact ⟨R, by rw [← Nat.add_assoc, Wel.wrongs_no h, h1], h2⟩
    · refine ⟨R ++ [i + d], by rw [← Nat.add_assoc, Wel.wrongs_yes h, h1, List.append_assoc], fun x hx => ?_⟩
      rcases List.mem_append.1 hx with hx | hx
      · exact h2 x hx
      · rw [List.mem_singleton.1 hx]; exact h
theorem co_append_at (a b : List Nat) (k : Nat) : co (a ++ b) (a.length + k) = co b k := by
  unfold co
  rw [List.getElem?_append_right (by omega), Nat.add_sub_cancel_left]
theorem wrongs_hit {l : List (Nat × Nat)} {a : List Nat} {i n : Nat} (hi : i < n) (h : Pol.ev a (px l i) ≠ py l i) : (wrongs l a i).length < (wrongs l a n).length ∧ co (wrongs l a n) (wrongs l a i).length = i := by
  obtain ⟨R, h1, _⟩ := wrongs_more l a (i + 1) (n - (i + 1))
  rw [show i + 1 + (n - (i + 1)) = n by omega, Wel.wrongs_yes h] at h1
  rw [h1]
  refine ⟨by simp, ?_⟩
  rw [List.append_assoc]
  have := co_append_at (wrongs l a i) ([i] ++ R) 0
  rw [Nat.add_zero] at this
  rw [this]
  rfl
theorem wrongs_skip {l : List (Nat × Nat)} {a : List Nat} {i n : Nat} (hi : i < n) (h : Pol.ev a (px l i) = py l i) (hk : (wrongs l a i).length < (wrongs l a n).length) : co (wrongs l a n) (wrongs l a i).length ≠ i := by
  obtain ⟨R, h1, h2⟩ := wrongs_more l a i (n - i)
  rw [show i + (n - i) = n by omega] at h1
  rw [h1] at hk ⊢
  rw [List.length_append] at hk
  have := co_append_at (wrongs l a i) R 0
  rw [Nat.add_zero] at this
  rw [this]
  intro e
  have hm : co R 0 ∈ R := by
    unfold co
    rw [List.getElem?_eq_getElem (show 0 < R.length by omega)]
    exact List.getElem_mem _
  rw [e] at hm
  exact h2 i hm h

set_option maxHeartbeats 800000 in
set_option maxRecDepth 100000 in
theorem wrong4_big (C : WelchSaid) (A B : Option Addr) (n ca m cb : Nat) (h : 60 < n ∨ 30 < m) (w : World) :
    Calls Try.prog 7 #[.slice A n ca, .slice B m cb] w (Holds w) := by
  have HAW := Lib.hid (fun u => awake4 C u)
  by_cases h1 : 60 < n
  · have t1 : (60 : Int) < (n : Int) := by omega
    clear h
    go_enter Try.func7, Try.ntmps7
    go_wp2_with fail
    refine (HAW.out w).mono ?_
    rintro e w1 ⟨rfl, hx1⟩
    have HX1 := Lib.hid hx1
    clear hx1
    go_wp2_with fail
    refine (HAW.out w1).mono ?_
    rintro e w2 ⟨rfl, hx2⟩
    have HX2 := Lib.hid hx2
    clear hx2
    go_wp2
    go_ret
    exact ⟨rfl, HX1.out.trans HX2.out⟩
  · have t1 : ¬ (60 : Int) < (n : Int) := by omega
    have d1 : decide ((60 : Int) < (n : Int)) = false := by simp; omega
    have n1 : decide (60 < n) = false := by simp; omega
    have t2 : (30 : Int) < (m : Int) := by omega
    clear h
    go_enter Try.func7, Try.ntmps7
    go_wp2_with fail
    refine (HAW.out w).mono ?_
    rintro e w1 ⟨rfl, hx1⟩
    have HX1 := Lib.hid hx1
    clear hx1
    go_wp2_with fail
    refine (HAW.out w1).mono ?_
    rintro e w2 ⟨rfl, hx2⟩
    have HX2 := Lib.hid hx2
    clear hx2
    go_wp2
    go_ret
    exact ⟨rfl, HX1.out.trans HX2.out⟩

set_option maxHeartbeats 1600000 in
set_option maxRecDepth 100000 in
theorem wrong4_small (C : WelchSaid) (l : List (Nat × Nat)) (a : List Nat) (A B : Option Addr) (ca cb : Nat) (w : World) (hl : PRd w A l) (ha : Rd w B a) (hca : l.length ≤ ca) (hcb : a.length ≤ cb) (h1 : l.length ≤ 60) (h2 : a.length ≤ 30) :
    Calls Try.prog 7 #[.slice A l.length ca, .slice B a.length cb] w (Holds w) := by
  have HAW := Lib.hid (fun u => awake4 C u)
  have HWC := Lib.hid (fun f u (hx : Ext w u) (hf : IsField u f) => C.wrong f l a A B ca cb u hf (hl.ext hx) (ha.ext hx) hca hcb (by omega) (by omega))
  have HEV := Lib.hid (fun x W (hx : x < 256) (hW : Ext w W) => ref_eval a x B cb W (ha.ext hW) hx (by omega))
  have HL := Lib.hid hl
  generalize hnl : l.length = nl at *
  have HNL := Lib.hid hnl
  have hwl := Wel.wrongs_len l a nl
  obtain ⟨ws, hws⟩ : ∃ ws, wrongs l a nl = ws := ⟨_, rfl⟩
  rw [hws] at hwl HWC
  obtain ⟨nw, hnw⟩ : ∃ nw, ws.length = nw := ⟨_, rfl⟩
  rw [hnw] at hwl
  have HNW := Lib.hid hnw
  have HWS := Lib.hid hws
  clear hl ha hws hnl hnw
  generalize a.length = na at *
  have t1 : ¬ (60 : Int) < (nl : Int) := by omega
  have d1 : decide ((60 : Int) < (nl : Int)) = false := by simp; omega
  have e1 : decide (60 < nl) = false := by simp; omega
  have t2 : ¬ (30 : Int) < (na : Int) := by omega
  have d2 : decide ((30 : Int) < (na : Int)) = false := by simp; omega
  have e2 : decide (30 < na) = false := by simp; omega
  go_enter Try.func7, Try.ntmps7
  go_wp2_with fail
  refine (HAW.out w).mono ?_
  rintro e w1 ⟨rfl, hx1⟩
  have HX1 := Lib.hid hx1
  clear hx1
  go_wp2_with fail
  refine (new_any w1).mono ?_
  rintro e w2 ⟨f, rfl, hf, hfs, hx2⟩
  have HF := Lib.hid hf
  have HX2 := Lib.hid (HX1.out.trans hx2)
  clear hf hx2
  go_wp2_with fail
  refine (HWC.out f w2 HX2.out HF.out).mono ?_
  rintro e w3 ⟨B3, c3, rfl, hc3, hr3, hx3⟩
  rw [HNW.out] at hc3 ⊢
  have HR3 := Lib.hid hr3
  have HX3 := Lib.hid (HX2.out.trans hx3)
  clear hr3 hx3
  go_wp2
  go_loopg [7, 31] nl (fun g s7 s31 wx => ∃ i k q : Nat, i + g = nl ∧ s31 = .int .i64 (i : Int) ∧ s7 = .int .i64 (k : Int) ∧ k = (wrongs l a i).length ∧ wx = w3.drewN q)
  case atStart => exact ⟨0, 0, 0, by omega, rfl, rfl, rfl, rfl⟩
  case round =>
    obtain ⟨i, k, q, hig, rfl, rfl, hk, rfl⟩ := hrel
    have hki : k ≤ i := by rw [hk]; exact Wel.wrongs_len _ _ _
    have HK := Lib.hid hk
    clear hk
    cases gk with
    | zero =>
      obtain rfl : nl = i := by omega
      clear hig
      have hkw : k = nw := by rw [HK.out, HWS.out, HNW.out]
      subst hkw
      have tk : ((k : Int) == (k : Int)) = true := by simp
      go_wp2
      go_ret
      exact ⟨rfl, HX3.out.drewN q⟩
    | succ g =>
      have hi : i < nl := by omega
      have hiI : (i : Int) < (nl : Int) := by omega
      obtain ⟨b1, o1, e1', hc1, hc2⟩ := (HL.out.ext HX3.out).2 i (by rw [HNL.out]; exact hi)
      subst e1'
      have hpx := (HL.out.1 i).1
      obtain ⟨x, hxx⟩ : ∃ x, px l i = x := ⟨_, rfl⟩
      obtain ⟨y, hyy⟩ : ∃ y, py l i = y := ⟨_, rfl⟩
      obtain ⟨v, hvv⟩ : ∃ v, Pol.ev a x = v := ⟨_, rfl⟩
      rw [hxx] at hc1 hpx
      rw [hyy] at hc2
      have HE := Lib.hid (fun q2 => HEV.out x ((w3.drewN q).drewN q2) hpx ((HX3.out.drewN q).drewN q2))
      rw [hvv] at HE
      have d1' : (w3.drewN q).cell? ⟨b1, o1 + i * 2, none⟩ = some (.int .u8 (x : Int)) := hc1
      have d2' : (w3.drewN q).cell? ⟨b1, o1 + i * 2 + 1, none⟩ = some (.int .u8 (y : Int)) := hc2
      have HR4 := Lib.hid (HR3.out.ext ((Ext.refl w3).drewN q))
      generalize hW : w3.drewN q = W at d1' d2' HE HR4 ⊢
      have HW := Lib.hid hW
      clear hW hc1 hc2
      by_cases hq : v = y
      · have tq : ((v : Int) != (y : Int)) = false := by subst hq; simp
        have hee : Pol.ev a (px l i) = py l i := by rw [hxx, hyy, hvv]; exact hq
        have HQ := Lib.hid (Wel.wrongs_no hee)
        by_cases hkn : k < nw
        · have tkn : (k : Int) < (nw : Int) := by omega
          have hne := wrongs_skip (n := nl) hi hee (by rw [← HK.out, HWS.out, HNW.out]; exact hkn)
          rw [← HK.out, HWS.out] at hne
          obtain ⟨b2, o2, e2', hc3'⟩ := HR4.out k (by rw [HNW.out]; exact hkn)
          subst e2'
          obtain ⟨z, hz⟩ : ∃ z, co ws k = z := ⟨_, rfl⟩
          rw [hz] at hne hc3'
          have tz : ((z : Int) == (i : Int)) = false := by simp; omega
          have HC3 := Lib.hid hc3'
          clear hq hvv hxx hyy hee hz hne hc3'
          go_wp2
          go_quiet (first | (go_at_call 18; exact quiet_hands (HE.out _)))
          have hc4 : (W.drewN nq).cell? ⟨b2, o2 + k, none⟩ = some (.int .i64 (z : Int)) := HC3.out
          go_wp2
          go_roundg g
          case measure => omega
          case rel => exact ⟨i + 1, k, q + nq, by omega, by go_num, rfl, by rw [HQ.out]; exact HK.out, by rw [← HW.out, World.drewN_drewN]⟩
        · have tkn : ¬ (k : Int) < (nw : Int) := by omega
          have dkn : decide ((k : Int) < (nw : Int)) = false := by simp; omega
          have ekn : decide (k < nw) = false := by simp; omega
          clear hq hvv hxx hyy hee
          go_wp2
          go_quiet (first | (go_at_call 18; exact quiet_hands (HE.out _)))
          go_wp2
          go_roundg g
          case measure => omega
          case rel => exact ⟨i + 1, k, q + nq, by omega, by go_num, rfl, by rw [HQ.out]; exact HK.out, by rw [← HW.out, World.drewN_drewN]⟩
      · have tq : ((v : Int) != (y : Int)) = true := by simp; omega
        have hee : Pol.ev a (px l i) ≠ py l i := by rw [hxx, hyy, hvv]; exact hq
        have HQ := Lib.hid (Wel.wrongs_yes hee)
        obtain ⟨hkn, hat⟩ := wrongs_hit (n := nl) hi hee
        rw [← HK.out, HWS.out] at hkn hat
        rw [HNW.out] at hkn
        have tkn : (k : Int) < (nw : Int) := by omega
        obtain ⟨b2, o2, e2', hc3'⟩ := HR4.out k (by rw [HNW.out]; exact hkn)
        subst e2'
        rw [hat] at hc3'
        have HC3 := Lib.hid hc3'
        have ti : ((i : Int) == (i : Int)) = true := by simp
        clear hq hvv hxx hyy hee hat hc3'
        go_wp2
        go_quiet (first | (go_at_call 18; exact quiet_hands (HE.out _)))
        have hc4 : (W.drewN nq).cell? ⟨b2, o2 + k, none⟩ = some (.int .i64 (i : Int)) := HC3.out
        go_wp2
        go_roundg g
        case measure => omega
        case rel => exact ⟨i + 1, k + 1, q + nq, by omega, by go_num, by go_num, by rw [HQ.out, List.length_append, ← HK.out]; rfl, by rw [← HW.out, World.drewN_drewN]⟩
theorem wrong4_walk (C : WelchSaid) (l : List (Nat × Nat)) (a : List Nat) (A B : Option Addr) (ca cb : Nat) (w : World) (hl : PRd w A l) (ha : Rd w B a) (hca : l.length ≤ ca) (hcb : a.length ≤ cb) :
    Calls Try.prog 7 #[.slice A l.length ca, .slice B a.length cb] w (Holds w) := by
  by_cases h : 60 < l.length ∨ 30 < a.length
  · exact wrong4_big C A B _ ca _ cb h w
  · exact wrong4_small C l a A B ca cb w hl ha hca hcb (by omega) (by omega)
end Go.Proofs.Ytbcbnpjbcjmjmaa

/-
  The law WelchOdd, walked, under what layer 4's functions are to do. Conditions: none.
-/
namespace Go.Proofs.Ytbcbnpjbcjmjmaa
open Go.RowKit
open Pol (co Sm px py Apart)
open Wel (Ap wrongs)

set_option maxHeartbeats 800000 in
set_option maxRecDepth 100000 in
theorem odd4_big (C : WelchSaid) (A : Option Addr) (nl ca : Nat) (k v : Int) (h : 20 < nl) (w : World) :
    Calls Try.prog 8 #[.slice A nl ca, .int .i64 k, .int .i64 v] w (Holds w) := by
  have HAW := Lib.hid (fun u => awake4 C u)
  have t0 : ((20 : Int) < (nl : Int)) := by omega
  clear h
  go_enter Try.func8, Try.ntmps8
  go_wp2_with fail
  refine (HAW.out w).mono ?_
  rintro e w1 ⟨rfl, hx1⟩
  have HX1 := Lib.hid hx1
  clear hx1
  go_wp2_with fail
  refine (HAW.out w1).mono ?_
  rintro e w2 ⟨rfl, hx2⟩
  have HX2 := Lib.hid hx2
  clear hx2
  go_wp2
  go_ret
  exact ⟨rfl, HX1.out.trans HX2.out⟩

/-- Two points at one place, and others. -/
def two1 : List (Nat × Nat) := [(1, 0), (1, 0)]
theorem two1_sm : Pol.PSm two1 := fun i => by
  match i with
  | 0 => exact ⟨by decide, by decide⟩
  | 1 => exact ⟨by decide, by decide⟩
  | i + 2 => unfold px py two1; simp
theorem two1_odd (l : List (Nat × Nat)) (k v : Int) : ¬ Fine (two1 ++ l) k v := fun h => h.1 1 0 (by omega) (by rw [List.length_append]; show 1 < 2 + l.length; omega) (by unfold px two1; rfl)
theorem two1_mine (w : World) : PMine (w.alloc (.cells (pv two1).toArray 44)) w.heap.size (.slice (some ⟨w.heap.size, 0, none⟩) 2 2) two1 :=
  ⟨rfl, .inr ⟨w.heap.size, 2, (pv two1).toArray, rfl, Nat.le_refl _, heap_alloc_new w _, Nat.le_refl _, by decide, rfl, rfl⟩⟩

set_option maxHeartbeats 1600000 in
set_option maxRecDepth 100000 in
theorem odd4_small (C : WelchSaid) (l : List (Nat × Nat)) (k v : Int) (A : Option Addr) (ca : Nat) (w : World) (hl : PRd w A l) (hca : l.length ≤ ca) (hk : In64 k) (hv : In64 v) (h1 : l.length ≤ 20) :
    Calls Try.prog 8 #[.slice A l.length ca, .int .i64 k, .int .i64 v] w (Holds w) := by
  have HAW := Lib.hid (fun u => awake4 C u)
  have HOD := Lib.hid (fun f u (hx : Ext w u) (hf : IsField u f) (k' v' : Int) (hk' : In64 k') (hv' : In64 v') (ho : ¬ Fine l k' v') => C.odd f l k' v' A ca u hf (hl.ext hx) hca (by omega) hk' hv' ho)
  have HTW := Lib.hid (fun f B c u (hf : IsField u f) (hB : PRd u B (two1 ++ l)) (hc : (two1 ++ l).length ≤ c) => C.odd f (two1 ++ l) 1 0 B c u hf hB hc (by rw [List.length_append]; show 2 + l.length ≤ 1024; omega) (by unfold In64; omega) (by unfold In64; omega) (two1_odd l 1 0))
  have hl2 : (two1 ++ l).length = 2 + l.length := by rw [List.length_append]; rfl
  have HPS := Lib.hid (show Pol.PSm (two1 ++ l) from fun i => by
    by_cases hi : i < two1.length
    · have := two1_sm i
      unfold px py at this ⊢
      rwa [List.getElem?_append_left hi]
    · have := hl.1 (i - two1.length)
      unfold px py at this ⊢
      rwa [List.getElem?_append_right (by omega)])
  simp only [hl2] at HTW
  have HL2 := Lib.hid hl2
  have HNF := Lib.hid (fun (k' v' : Int) (h : k' < 1 ∨ v' < 0 ∨ (l.length : Int) < k' + 2 * v') (hf : Fine l k' v') => (show False from by obtain ⟨_, h1, h2, h3⟩ := hf; omega))
  have HL := Lib.hid hl
  generalize hnl : l.length = nl at *
  have HNL := Lib.hid hnl
  obtain ⟨k1, hk1⟩ : ∃ k1, (if (0 : Int) < k then (0 : Int) else k) = k1 := ⟨_, rfl⟩
  obtain ⟨v1, hv1⟩ : ∃ v1, (if (-1 : Int) < v then (-1 : Int) else v) = v1 := ⟨_, rfl⟩
  obtain ⟨k2, hk2⟩ : ∃ k2, (if k < (nl : Int) + 1 then (nl : Int) + 1 else k) = k2 := ⟨_, rfl⟩
  obtain ⟨v2, hv2⟩ : ∃ v2, (if v < (0 : Int) then (0 : Int) else v) = v2 := ⟨_, rfl⟩
  obtain ⟨q2, hq2⟩ : ∃ q, nl / 2 = q := ⟨_, rfl⟩
  have hq3 : Int.tdiv (nl : Int) 2 = (q2 : Int) := by rw [Int.tdiv_eq_ediv_of_nonneg (by omega)]; omega
  have hqb : q2 ≤ 10 := by omega
  have hqn : nl < 2 * q2 + 2 := by omega
  unfold In64 at hk hv
  have bk1 : k1 < 1 ∧ In64 k1 := by unfold In64; rw [← hk1]; split <;> omega
  have bv1 : v1 < 0 ∧ In64 v1 := by unfold In64; rw [← hv1]; split <;> omega
  have bk2 : (nl : Int) < k2 ∧ In64 k2 := by unfold In64; rw [← hk2]; split <;> omega
  have bv2 : 0 ≤ v2 ∧ In64 v2 := by unfold In64; rw [← hv2]; split <;> omega
  have BK1 := Lib.hid bk1
  have BV1 := Lib.hid bv1
  have BK2 := Lib.hid bk2
  have BV2 := Lib.hid bv2
  have I0 := Lib.hid (show In64 0 from by unfold In64; omega)
  have I1 := Lib.hid (show In64 1 from by unfold In64; omega)
  have I3 := Lib.hid (show In64 ((nl : Int) + 1) from by unfold In64; omega)
  have I4 := Lib.hid (show In64 ((q2 : Int) + 1) from by unfold In64; omega)
  clear hl hk hv hnl hl2 hq2 bk1 bv1 bk2 bv2
  have t0 : ¬ ((20 : Int) < (nl : Int)) := by omega
  have d0 : decide (((20 : Int) < (nl : Int))) = false := by simp; omega
  have n0 : decide (20 < nl) = false := by simp; omega
  go_enter Try.func8, Try.ntmps8
  go_wp2_with fail
  refine (HAW.out w).mono ?_
  rintro e w1 ⟨rfl, hx1⟩
  have HX1 := Lib.hid hx1
  clear hx1
  go_wp2_with fail
  refine (new_any w1).mono ?_
  rintro e w2 ⟨f, rfl, hf, hfs, hx2⟩
  have HF := Lib.hid hf
  have HX2 := Lib.hid (HX1.out.trans hx2)
  clear hf hx2
  go_wp2_with (at_builtin; refine wpList_append_prd rfl (.tmp 33) (.tmp 34) rfl w2.heap.size (.slice (some ⟨w2.heap.size, 0, none⟩) 2 2) two1 l rfl (two1_mine w2) A nl ca rfl HNL.out (HL.out.ext (HX2.out.alloc _)) (by rw [HNL.out]; show 2 + nl ≤ _; omega) (by simp) ?_; intro v' w3 hown' hg' hat')
  obtain ⟨B3, c3, rfl, hc3, hr3⟩ := hown'.slice HPS.out
  rw [HL2.out] at hc3 ⊢
  have hx3 : Ext w2 w3 := ((Ext.refl w2).alloc _).more hg' (fun k e => by simp [Value.ownBlock] at e; omega)
  have HR3 := Lib.hid hr3
  have HX3 := Lib.hid (HX2.out.trans hx3)
  have HF3 := Lib.hid (HF.out.ext hx3)
  clear hown' hg' hat' hr3 hx3
  go_wp2_with fail
  refine (HTW.out f B3 c3 w3 HF3.out HR3.out hc3).mono ?_
  rintro e w4 ⟨v4, rfl, ⟨B4, c4, rfl, hc4, hr4⟩, hx4⟩
  have HX4 := Lib.hid (HX3.out.trans hx4)
  have HF4 := Lib.hid (HF3.out.ext hx4)
  clear hr4 hx4
  go_wp2_with fail
  refine (HOD.out f w4 HX4.out HF4.out k1 0 BK1.out.2 I0.out (HNF.out _ _ (.inl BK1.out.1))).mono ?_
  rintro e w5 ⟨v5, rfl, ⟨B5, c5, rfl, hc5, hr5⟩, hx5⟩
  have HX5 := Lib.hid (HX4.out.trans hx5)
  have HF5 := Lib.hid (HF4.out.ext hx5)
  clear hr5 hx5
  go_wp2_with fail
  refine (HOD.out f w5 HX5.out HF5.out 1 v1 I1.out BV1.out.2 (HNF.out _ _ (.inr (.inl BV1.out.1)))).mono ?_
  rintro e w6 ⟨v6, rfl, ⟨B6, c6, rfl, hc6, hr6⟩, hx6⟩
  have HX6 := Lib.hid (HX5.out.trans hx6)
  have HF6 := Lib.hid (HF5.out.ext hx6)
  clear hr6 hx6
  go_wp2_with fail
  refine (HOD.out f w6 HX6.out HF6.out ((nl : Int) + 1) 0 I3.out I0.out (HNF.out _ _ (.inr (.inr (by omega))))).mono ?_
  rintro e w7 ⟨v7, rfl, ⟨B7, c7, rfl, hc7, hr7⟩, hx7⟩
  have HX7 := Lib.hid (HX6.out.trans hx7)
  have HF7 := Lib.hid (HF6.out.ext hx7)
  clear hr7 hx7
  go_wp2_with fail
  refine (HOD.out f w7 HX7.out HF7.out 1 ((q2 : Int) + 1) I1.out I4.out (HNF.out _ _ (.inr (.inr (by omega))))).mono ?_
  rintro e w8 ⟨v8, rfl, ⟨B8, c8, rfl, hc8, hr8⟩, hx8⟩
  have HX8 := Lib.hid (HX7.out.trans hx8)
  have HF8 := Lib.hid (HF7.out.ext hx8)
  clear hr8 hx8
  go_wp2_with fail
  refine (HOD.out f w8 HX8.out HF8.out k2 v2 BK2.out.2 BV2.out.2 (HNF.out _ _ (.inr (.inr (by have := BK2.out.1; have := BV2.out.1; omega))))).mono ?_
  rintro e w9 ⟨v9, rfl, ⟨B9, c9, rfl, hc9, hr9⟩, hx9⟩
  have HX9 := Lib.hid (HX8.out.trans hx9)
  have HF9 := Lib.hid (HF8.out.ext hx9)
  clear hr9 hx9
  go_wp2
  go_ret
  exact ⟨rfl, HX9.out⟩
theorem odd4_walk (C : WelchSaid) (l : List (Nat × Nat)) (k v : Int) (A : Option Addr) (ca : Nat) (w : World) (hl : PRd w A l) (hca : l.length ≤ ca) (hk : In64 k) (hv : In64 v) :
    Calls Try.prog 8 #[.slice A l.length ca, .int .i64 k, .int .i64 v] w (Holds w) := by
  by_cases h : 20 < l.length
  · exact odd4_big C A _ ca k v h w
  · exact odd4_small C l k v A ca w hl hca hk hv (by omega)
end Go.Proofs.Ytbcbnpjbcjmjmaa

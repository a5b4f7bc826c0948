/-
  The walk of the statement PolyMeets: the polynomial through some points has their values there, and a degree below their number, and the order of the points plays no part, if layer 2's own functions do what they are to do. Conditions: just that.
-/
import Derived.Test.YtagdialceelggaaL2Ring
import Derived.Test.YtagdialceelggaaPtsAppend
import Derived.Test.YtagdialceelggaaRTwice
import Derived.Test.YtagdialceelggaaQTail
namespace Go.Proofs.Ytagdialceelggaa
open Go.RowKit
open Pol (co Sm px py Apart thr trim)

set_option maxHeartbeats 400000 in
set_option maxRecDepth 100000 in
theorem meets2_big (C : PolySaid) (A : Option Addr) (n ca : Nat) (h : 20 < n) (w : World) : Calls Try.prog 6 #[.slice A n ca] w (Holds w) := by
  have hI : (20 : Int) < (n : Int) := by omega
  go_enter Try.func6, Try.ntmps6
  go_wp2_with fail
  refine (awake2 C _).mono ?_
  rintro e v0 ⟨rfl, hx⟩
  have K1 := Lib.hid (hx)
  clear hx
  go_wp2_with fail
  refine (awake2 C _).mono ?_
  rintro e v1 ⟨rfl, hx⟩
  have K2 := Lib.hid (K1.out.trans (hx))
  clear K1
  clear hx
  go_wp2_with fail
  go_ret
  exact ⟨rfl, K2.out⟩

set_option maxHeartbeats 1000000 in
set_option maxRecDepth 100000 in
theorem meets2_twice (C : PolySaid) (l : List (Nat × Nat)) (A : Option Addr) (ca : Nat) (w : World) (ha : PRd w A l) (hl : l.length ≤ 20) (h0 : ¬ Apart l l.length) :
    Calls Try.prog 6 #[.slice A l.length ca] w (Holds w) := by
  have hI : ¬ (20 : Int) < (l.length : Int) := by omega
  have H0 := Lib.hid h0
  clear h0
  have X0 := Lib.hid (Ext.refl w)
  have K1 := Lib.hid (ha)
  clear ha
  go_enter Try.func6, Try.ntmps6
  go_wp2_with fail
  refine (awake2 C _).mono ?_
  rintro e v1 ⟨rfl, hx⟩
  have K2 := Lib.hid (X0.out.trans (hx))
  have K3 := Lib.hid (K1.out.ext (hx))
  clear X0 K1
  clear hx
  go_wp2_with fail
  refine ((ref_twice_yes l A ca _ K3.out (by omega) H0.out).mono fun _ _ h => h.tells).mono ?_
  rintro e v2 ⟨rfl, hx⟩
  have K4 := Lib.hid (K2.out.trans (hx))
  have K5 := Lib.hid (K3.out.ext (hx))
  clear K2 K3
  clear hx
  go_wp2_with fail
  refine (awake2 C _).mono ?_
  rintro e v3 ⟨rfl, hx⟩
  have K6 := Lib.hid (K4.out.trans (hx))
  have K7 := Lib.hid (K5.out.ext (hx))
  clear K4 K5
  clear hx
  go_wp2_with fail
  go_ret
  exact ⟨rfl, K6.out⟩

/-- The points from behind. -/
def behind (l : List (Nat × Nat)) (k : Nat) : List (Nat × Nat) := (List.range k).map fun i => (px l (l.length - 1 - i), py l (l.length - 1 - i))
theorem behind_len (l : List (Nat × Nat)) (k : Nat) : (behind l k).length = k := by simp [behind]
theorem behind_succ (l : List (Nat × Nat)) (k : Nat) : behind l (k + 1) = behind l k ++ [(px l (l.length - 1 - k), py l (l.length - 1 - k))] := by simp [behind, List.range_succ]
theorem behind_at (l : List (Nat × Nat)) (k i : Nat) (h : i < k) : px (behind l k) i = px l (l.length - 1 - i) ∧ py (behind l k) i = py l (l.length - 1 - i) := by
  have e : (behind l k)[i]? = some (px l (l.length - 1 - i), py l (l.length - 1 - i)) := by
    unfold behind
    rw [List.getElem?_map, List.getElem?_range h]; rfl
  rw [show px (behind l k) i = ((behind l k)[i]?.getD (0, 0)).1 from rfl, show py (behind l k) i = ((behind l k)[i]?.getD (0, 0)).2 from rfl, e]
  exact ⟨rfl, rfl⟩
theorem behind_sm (l : List (Nat × Nat)) (hl : Pol.PSm l) (k : Nat) : Pol.PSm (behind l k) := fun i => by
  by_cases h : i < k
  · rw [(behind_at l k i h).1, (behind_at l k i h).2]; exact hl _
  · unfold px py
    rw [List.getElem?_eq_none (by rw [behind_len]; omega)]
    exact ⟨by simp, by simp⟩
theorem behind_apart (l : List (Nat × Nat)) (h : Apart l l.length) : Apart (behind l l.length) l.length := fun i j h1 h2 => by
  rw [(behind_at l _ i h2).1, (behind_at l _ j (by omega)).1]
  exact h.ne (by omega) (by omega) (by omega)
theorem behind_thr (l : List (Nat × Nat)) (hl : Pol.PSm l) (h : Apart l l.length) : thr (behind l l.length) l.length = thr l l.length := by
  have := Pol.thr_one (behind l l.length) (behind_sm l hl _) (by rw [behind_len]; exact behind_apart l h) (thr l l.length) (Pol.thr_sm l hl _) (by rw [behind_len]; exact Pol.thr_len l _ (Nat.le_refl _)) (fun j hj => by
    rw [behind_len] at hj
    rw [(behind_at l _ j hj).1, (behind_at l _ j hj).2, Pol.thr_meets l hl h _ (by omega)])
  rw [behind_len, Pol.thr_trim] at this
  exact this.symm

def Cls (u w : World) : Prop := Ext u w

set_option maxHeartbeats 1000000 in
set_option maxRecDepth 100000 in
theorem meets2_of (C : PolySaid) (D : AtSaid) (l : List (Nat × Nat)) (A : Option Addr) (ca : Nat) (w : World) (ha : PRd w A l) (hca : l.length ≤ ca) (hl : l.length ≤ 20) (h0 : Apart l l.length) : Calls Try.prog 6 #[.slice A l.length ca] w (Holds w) := by
  have hI : ¬ (20 : Int) < (l.length : Int) := by omega
  have hI' : decide ((20 : Int) < (l.length : Int)) = false := by simpa using hI
  have hsl := ha.1
  have HSL := Lib.hid hsl
  have H0 := Lib.hid h0
  clear hsl h0
  have X0 := Lib.hid (Ext.refl w)
  have K1 := Lib.hid (ha)
  clear ha
  go_enter Try.func6, Try.ntmps6
  go_wp2_with fail
  refine (awake2 C _).mono ?_
  rintro e v1 ⟨rfl, hx⟩
  have K2 := Lib.hid (X0.out.trans (hx))
  have K3 := Lib.hid (K1.out.ext (hx))
  clear X0 K1
  clear hx
  go_wp2_with fail
  refine ((ref_twice_no l A ca _ K3.out (by omega) H0.out).mono fun _ _ h => h.tells).mono ?_
  rintro e v2 ⟨rfl, hx⟩
  have K4 := Lib.hid (K2.out.trans (hx))
  have K5 := Lib.hid (K3.out.ext (hx))
  clear K2 K3
  clear hx
  go_wp2_with fail
  refine (new_any _).mono ?_
  rintro e v3 ⟨f, rfl, hf, _, hx⟩
  have K6 := Lib.hid (K4.out.trans (hx))
  have K7 := Lib.hid (K5.out.ext (hx))
  clear K4 K5
  have K8 := Lib.hid (hf)
  clear hf hx
  go_wp2_with fail
  go_loopg [4, 28] l.length (fun g s4 s28 wx => ∃ k : Nat, k + g = l.length ∧ s28 = .int .i64 (k : Int) ∧ PMine wx v3.heap.size s4 (behind l k) ∧ Ext v3 wx)
  case atStart => exact ⟨0, by omega, rfl, PMine.nil _ _, Ext.refl _⟩
  case round =>
    obtain ⟨k, hkg, rfl, hm, hx⟩ := hrel
    have HM := Lib.hid hm
    have HX := Lib.hid hx
    clear hm hx
    cases gk with
    | zero =>
      obtain rfl : l.length = k := by omega
      clear hkg
      have hsb := behind_sm l HSL.out l.length
      obtain ⟨B, c, e, hcB, hrB⟩ := HM.out.slice hsb
      rw [behind_len] at e hcB
      subst e
      have h1 := fun W (hf : IsField W f) (hr : PRd W A l) => C.through f l A ca W hf hr hca (by omega) H0.out
      have h2 := fun W (hf : IsField W f) (hr : PRd W B (behind l l.length)) => C.through f (behind l l.length) B c W hf hr (by rw [behind_len]; exact hcB) (by rw [behind_len]; omega) (by rw [behind_len]; exact behind_apart l H0.out)
      simp only [behind_len, behind_thr l HSL.out H0.out] at h2
      have hmeet := Pol.thr_meets l HSL.out H0.out
      have hPlen : (thr l l.length).length ≤ l.length := by
        have h3 := Pol.trim_le (thr l l.length) l.length (Pol.thr_len l _ (Nat.le_refl _))
        rw [Pol.thr_trim] at h3
        exact h3
      obtain ⟨P, hP⟩ : ∃ P, thr l l.length = P := ⟨_, rfl⟩
      have hat := fun W (k : Nat) (hf : IsField W f) (hr : PRd W A l) => D.value f l (px l k) A ca W hf hr hca (by omega) (HSL.out k).1 H0.out
      rw [hP] at h1 h2 hPlen
      simp only [hP] at hat hmeet
      have G1 := Lib.hid h1
      have G2 := Lib.hid h2
      have GA := Lib.hid hat
      have GM := Lib.hid hmeet
      have YB := Lib.hid hrB
      have hPI : ((P.length : Nat) : Int) ≤ ((l.length : Nat) : Int) := by omega
      clear h1 h2 hat hmeet hrB hsb hP HM
      have F0 := Lib.hid (K8.out.ext HX.out)
      have A0 := Lib.hid (K7.out.ext HX.out)
      go_wp2_with fail
      refine (G1.out _ F0.out A0.out).mono ?_
      rintro e v1 ⟨v, rfl, ⟨B1, d1, rfl, hd1, hr⟩, hx⟩
      have K101 := Lib.hid (HX.out.trans (hx))
      have K102 := Lib.hid (F0.out.ext (hx))
      have K103 := Lib.hid (A0.out.ext (hx))
      have K104 := Lib.hid (YB.out.ext (hx))
      clear HX F0 A0 YB
      have K105 := Lib.hid (hr)
      clear hr hx
      go_wp2_with fail
      refine (G2.out _ K102.out K104.out).mono ?_
      rintro e v2 ⟨v, rfl, ⟨B2, d2, rfl, hd2, hr⟩, hx⟩
      have K106 := Lib.hid (K101.out.trans (hx))
      have K107 := Lib.hid (K102.out.ext (hx))
      have K108 := Lib.hid (K103.out.ext (hx))
      have K109 := Lib.hid (K104.out.ext (hx))
      have K110 := Lib.hid (K105.out.ext (hx))
      clear K101 K102 K103 K104 K105
      have K111 := Lib.hid (hr)
      clear hr hx
      go_wp2_with fail
      go_loopg [57] l.length (fun g s57 wx => ∃ k : Nat, k + g = l.length ∧ s57 = .int .i64 (k : Int) ∧ Ext v2 wx)
      case atStart => exact ⟨0, by omega, rfl, Ext.refl _⟩
      case round =>
        obtain ⟨k, hkg, rfl, hx⟩ := hrel
        have HY := Lib.hid hx
        clear hx
        cases gk with
        | zero =>
          obtain rfl : l.length = k := by omega
          clear hkg
          go_wp2_with fail
          refine (same_tells P B1 B2 d1 d2 _ (K110.out.ext HY.out) (K111.out.ext HY.out) (by omega)).mono ?_
          rintro e u1 ⟨rfl, hx1⟩
          have HY1 := Lib.hid (HY.out.trans hx1)
          clear hx1
          go_wp2_with fail
          go_ret
          exact ⟨rfl, K6.out.trans (K106.out.trans HY1.out)⟩
        | succ g =>
          have hk : k < l.length := by omega
          have hkI : (k : Int) < (l.length : Int) := by omega
          obtain ⟨b1, o1, e1, hc1, _⟩ := (K108.out.ext HY.out).2 k hk
          subst e1
          have hpx := (HSL.out k).1
          have hev := GM.out k hk
          have ha' := GA.out wr k (K107.out.ext HY.out) (K108.out.ext HY.out)
          rw [hev] at ha'
          have HE := Lib.hid hev
          have HAT := Lib.hid ha'
          clear hev ha'
          go_wp2_with fail
          refine HAT.out.mono ?_
          rintro e u1 ⟨rfl, hx1⟩
          have HY1 := Lib.hid (HY.out.trans hx1)
          clear hx1 hc1
          obtain ⟨b3, o3, e3, hc1, hc2⟩ := (K108.out.ext HY1.out).2 k hk
          injection e3 with e3
          injection e3 with e4 e5
          subst e4
          subst e5
          have hFu := K107.out.ext HY1.out
          have hPu := K110.out.ext HY1.out
          have HFu := Lib.hid hFu
          have HPu := Lib.hid hPu
          clear hFu hPu
          go_wp2
          have FX := Lib.hid (show ∀ W, Cls u1 W → W.cell? ⟨b1, o1 + k * 2, none⟩ = some (.int .u8 ((px l k : Nat) : Int)) from fun W hW => by
            obtain ⟨b3, o3, e3, h1, h2⟩ := ((K108.out.ext HY1.out).ext hW).2 k hk
            injection e3 with e3
            injection e3 with e4 e5
            subst e4
            subst e5
            exact h1)
          have FY := Lib.hid (show ∀ W, Cls u1 W → W.cell? ⟨b1, o1 + k * 2 + 1, none⟩ = some (.int .u8 ((py l k : Nat) : Int)) from fun W hW => by
            obtain ⟨b3, o3, e3, h1, h2⟩ := ((K108.out.ext HY1.out).ext hW).2 k hk
            injection e3 with e3
            injection e3 with e4 e5
            subst e4
            subst e5
            exact h2)
          have FC := Lib.hid (show ∀ W, Cls u1 W → Calls Try.prog 16 #[.pointer (some ⟨f, 0, none⟩), .slice B1 P.length d1, .int .u8 ((px l k : Nat) : Int)] W (fun e w' => e = .returned (.int .u8 ((py l k : Nat) : Int)) ∧ Cls u1 w') from fun W hW =>
            (eval_is C f P (px l k) (py l k) B1 d1 W (HFu.out.ext hW) (HPu.out.ext hW) hpx (by omega) HE.out).mono fun _ _ h => ⟨h.1, Ext.trans hW h.2⟩)
          clear hc1 hc2
          refine wp_region_quiet (C := Cls u1) (by kernel_rfl) (by kernel_rfl) (show Cls u1 u1.drew from (Ext.refl u1).drew) ?_
          repeat (first
            | (refine wpQuiet_step (fun K hK => ?_); go_simp; refine ⟨_, fun _ _ => rfl, hK _ ?_⟩; clear hK K)
            | (refine wpQuiet_step (fun K hK => ?_); go_simp; refine ⟨.int .u8 ((px l k : Nat) : Int), fun W hW => ?_, hK _ ?_⟩; (focus (have h1 := FX.out W hW; go_simp; done)); clear hK K)
            | (refine wpQuiet_step (fun K hK => ?_); go_simp; refine ⟨.int .u8 ((py l k : Nat) : Int), fun W hW => ?_, hK _ ?_⟩; (focus (have h1 := FY.out W hW; go_simp; done)); clear hK K)
            | (refine wpQuiet_step (fun K hK => ?_); go_simp; refine ⟨_, fun W hW => FC.out W hW, hK _ ?_⟩; clear hK K))
          refine wpQuiet_nil ?_
          intro u2 hu2
          have HY2 := Lib.hid (HY1.out.trans hu2)
          clear hu2
          go_wp2
          go_roundg g
          case measure => omega
          case rel => exact ⟨k + 1, by omega, by go_num, HY2.out⟩
    | succ g =>
      have hk : k < l.length := by omega
      have hkI : (k : Int) < (l.length : Int) := by omega
      obtain ⟨s, hs⟩ : ∃ s, l.length - 1 - k = s := ⟨_, rfl⟩
      have hsI : ((l.length : Nat) : Int) - 1 - (k : Int) = (s : Int) := by omega
      have hsl' : (s : Int) < (l.length : Int) := by omega
      obtain ⟨b1, o1, e1, hc1, hc2⟩ := (K7.out.ext HX.out).2 s (by omega)
      subst e1
      have hps : Pol.PSm [(px l s, py l s)] := fun i => by
        match i with
        | 0 => exact HSL.out s
        | n + 1 => simp [px, py]
      have hsu : behind l (k + 1) = behind l k ++ [(px l s, py l s)] := by rw [behind_succ, hs]
      have HPS := Lib.hid hps
      have HSU := Lib.hid hsu
      clear hps hsu hs
      go_wp2_with (at_builtin; refine wpList_append_prd rfl (.tmp 31) (.tmp 40) rfl v3.heap.size u4 (behind l k) [(px l s, py l s)] rfl (HM.out.kept ((Ext.refl _).alloc _)) (some ⟨wr.heap.size, 0, none⟩) 1 1 rfl rfl (prd_lit wr _ HPS.out) (by rw [behind_len]; simp; omega) (by simp; have := HX.out.size; omega) ?_; intro v' w' hown' hg' hat')
      have HOWN := Lib.hid hown'
      have HYY := Lib.hid ((HX.out.alloc _).more hg' HM.out.block)
      clear hown' hg' hat'
      go_wp2
      go_roundg g
      case measure => omega
      case rel => exact ⟨k + 1, by omega, by go_num, by rw [HSU.out]; exact HOWN.out, HYY.out⟩

theorem meets2_walk (C : PolySaid) (D : AtSaid) (l : List (Nat × Nat)) (A : Option Addr) (ca : Nat) (w : World) (ha : PRd w A l) (hca : l.length ≤ ca) : Calls Try.prog 6 #[.slice A l.length ca] w (Holds w) := by
  by_cases h : 20 < l.length
  · exact meets2_big C A _ ca h w
  by_cases h0 : Apart l l.length
  · exact meets2_of C D l A ca w ha hca (by omega) h0
  · exact meets2_twice C l A ca w ha (by omega) h0
end Go.Proofs.Ytagdialceelggaa

/-
  What the document's own Solve of layer 3 does: the one solution whose free unknowns are 0, or its errors. Conditions: no more than 2^16 elements and rows.
-/
import Derived.Test.YtlncelfacfflhaaS3Red
namespace Go.Proofs.Ytlncelfacfflhaa
open Go.RowKit
open Pol (co Sm)
open Lin (Red SolSome SolNone)

/-- A list, and a number. -/
def GivesE (l : List Nat) (n : Int) (w : World) (e : Ending) (w' : World) : Prop := ∃ v : Value, e = .returned (.tuple #[v, .int .i64 n]) ∧ Sl w' v l ∧ Ext w w'
theorem sl_none (w : World) : Sl w (.slice none 0 0) [] := ⟨none, 0, rfl, Nat.le_refl _, Rd.nil _ _⟩
/-- How many elements a row has. -/
def wide (rows : List (List Nat)) : Nat := (ro rows 0).length
/-- What Solve answers of right rows. -/
def SolveP (K : (Nat → Nat) → Prop) (n : Nat) (w : World) (e : Ending) (w' : World) : Prop :=
  (∃ x, SolSome K n x ∧ GivesE x 0 w e w') ∨ (SolNone K n ∧ GivesE [] 7 w e w')
def SolveE (rows : List (List Nat)) (w : World) (e : Ending) (w' : World) : Prop := SolveP (KR (wide rows) rows) (wide rows - 1) w e w'

def outF (F : Nat → Nat → Nat) (ps : List Nat) (n : Nat) : Nat → Nat → Nat
  | 0 => fun _ => 0
  | i + 1 => upd (outF F ps n i) (co ps i) (F i n)
theorem outF_no {F : Nat → Nat → Nat} {ps : List Nat} {n k : Nat} : ∀ i, i ≤ ps.length → (∀ j, j < ps.length → co ps j ≠ k) → outF F ps n i k = 0
  | 0, _, _ => rfl
  | i + 1, hi, h => by
    rw [outF]
    unfold upd
    rw [if_neg (fun e => h i (by omega) e.symm)]
    exact outF_no i (by omega) h
theorem outF_at {m N c : Nat} {K : (Nat → Nat) → Prop} {F : Nat → Nat → Nat} {ps : List Nat} (h : Red m N c K F ps) (n : Nat) {j : Nat} : ∀ i, i ≤ ps.length → j < i → outF F ps n i (co ps j) = F j n
  | 0, _, hj => by omega
  | i + 1, hi, hj => by
    rw [outF]
    unfold upd
    by_cases e : j = i
    · rw [if_pos (by rw [e]), e]
    · rw [if_neg (fun e' => e (h.inj (by omega) (by omega) e'))]
      exact outF_at h n i (by omega) (by omega)
theorem outF_lt {F : Nat → Nat → Nat} {ps : List Nat} {n : Nat} (hb : ∀ i k, F i k < 256) : ∀ i k, outF F ps n i k < 256
  | 0, _ => by simp [outF]
  | i + 1, k => by
    rw [outF]
    unfold upd
    split
    · exact hb _ _
    · exact outF_lt hb i k

set_option maxHeartbeats 400000 in
theorem ref_solve_odd (rows : List (List Nat)) (A : Option Addr) (ca : Nat) (w : World) (ha : RRd w A rows) (hml : rows.length ≤ 65536) (hll : ∀ i, i < rows.length → (ro rows i).length ≤ 65536) (h : ¬ Rt rows) :
    Calls Try.prog 14 #[.slice A rows.length ca] w (GivesE [] 1 w) := by
  have HR := Lib.hid (ref_right rows A ca w ha hml hll)
  have HH := Lib.hid h
  clear ha hll h
  generalize rows.length = m at *
  go_enter Try.func14, Try.ntmps14
  go_wp2_with fail
  refine HR.out.mono ?_
  rintro e w1 (⟨hp, _⟩ | ⟨_, rfl, q, rfl⟩)
  · exact absurd hp HH.out
  · go_wp2
    go_ret2
    exact ⟨_, rfl, sl_none _, (Ext.refl w).drewN q⟩

set_option maxHeartbeats 2000000 in
set_option maxRecDepth 100000 in
theorem ref_solve (rows : List (List Nat)) (A : Option Addr) (ca : Nat) (w : World) (ha : RRd w A rows) (hml : rows.length ≤ 65536) (hll : ∀ i, i < rows.length → (ro rows i).length ≤ 65536) (h : Rt rows) :
    Calls Try.prog 14 #[.slice A rows.length ca] w (SolveE rows w) := by
  have HR := Lib.hid (ref_right rows A ca w ha hml hll)
  have hm := h.1
  obtain ⟨n, hn⟩ : ∃ n, wide rows = n + 1 := ⟨wide rows - 1, by have := (h.2 0 hm).1; unfold wide; omega⟩
  have hn1 : n + 1 ≤ 65536 := by rw [← hn]; exact hll 0 hm
  have hlen : ∀ i, i < rows.length → (ro rows i).length = n + 1 := fun i hi => by rw [(h.2 i hi).2, ← hn]; rfl
  have HRED := Lib.hid (fun W (hW : Ext w W) => ref_reduce rows A ca (n + 1) n W (ha.ext hW) hm hml hlen hn1 (by omega))
  obtain ⟨b0, o0, B0, c0, hA0, hc0, _, _⟩ := ha 0 hm
  rw [hlen 0 hm, Nat.add_zero] at hc0
  subst hA0
  unfold SolveE
  rw [hn, Nat.add_sub_cancel]
  have HH := Lib.hid h
  have HC0 := Lib.hid hc0
  generalize KR (n + 1) rows = K at *
  generalize rows.length = m at *
  have hmI : (0 : Int) < (m : Int) := by omega
  clear ha hll h hlen hc0 hn
  go_enter Try.func14, Try.ntmps14
  go_wp2_with fail
  refine HR.out.mono ?_
  rintro e w1 (⟨_, rfl, q, rfl⟩ | ⟨hp, _⟩)
  rotate_left
  · exact absurd HH.out hp
  have hc1 : (w.drewN q).cell? ⟨b0, o0, none⟩ = some (.slice B0 (n + 1) c0) := HC0.out
  have hsub : ((n + 1 : Nat) : Int) - 1 = (n : Int) := by omega
  go_wp2_with fail
  refine (HRED.out (w.drewN q) ((Ext.refl w).drewN q)).mono ?_
  rintro e w2 ⟨g, cl, fv, F, ps, rfl, hcl, hlr, hred, ⟨B, cb, rfl, hir⟩, hx2⟩
  have HLR := Lib.hid hlr
  have HRD := Lib.hid hred
  have HIR := Lib.hid hir
  have HX2 := Lib.hid (((Ext.refl w).drewN q).trans hx2)
  have hdm := hred.few
  have hFb := Lib.hid hred.bytes
  clear hlr hred hir hx2 hc1 HRED HR HC0
  obtain ⟨d, hd⟩ : ∃ d, ps.length = d := ⟨_, rfl⟩
  rw [hd] at hdm ⊢
  have HD := Lib.hid hd
  clear hd
  go_wp2
  go_loopg [7] (m - d) (fun gh s wx => ∃ i : Nat, i + gh = m ∧ d ≤ i ∧ s = .int .i64 (i : Int) ∧ w2 = wx ∧ ∀ j, d ≤ j → j < i → F j n = 0)
  case atStart => exact ⟨d, by omega, Nat.le_refl _, rfl, rfl, fun j h1 h2 => by omega⟩
  case round =>
    obtain ⟨i, hig, hdi, rfl, rfl, hz⟩ := hrel
    have HZ := Lib.hid hz
    clear hz
    cases gk with
    | zero =>
      obtain rfl : i = m := by omega
      clear hig
      have hmk := fun W => run_make_u8 n (by omega) W
      go_wp2
      clear hmk
      go_loopg [44] d (fun gh s wx => ∃ k : Nat, k + gh = d ∧ s = .int .i64 (k : Int) ∧ Blk wx w2.heap.size n (outF F ps n k) ∧ Ext w2 wx)
      case atStart => exact ⟨0, by omega, rfl, Blk.new _ n (outF F ps n 0), (Ext.refl _).alloc _⟩
      case round =>
        obtain ⟨k, hkg, rfl, hblk, hx⟩ := hrel
        have HX := Lib.hid hx
        have HK := Lib.hid hblk
        clear hx hblk
        cases gk with
        | zero =>
          obtain rfl : k = d := by omega
          clear hkg
          have hsol := HRD.out.some (fun j h1 h2 => HZ.out j (by have := HD.out; omega) h2) (outF F ps n k) (fun j hj => outF_at HRD.out n k (by have := HD.out; omega) (by have := HD.out; omega)) (fun j _ hno => outF_no k (by have := HD.out; omega) hno)
          have hrd := HK.out.reads (fun j _ => outF_lt hFb.out k j)
          have HSO := Lib.hid hsol
          have HRR := Lib.hid hrd
          clear hsol hrd
          go_wp2
          go_ret2
          exact .inl ⟨_, HSO.out, _, rfl, ⟨some ⟨w2.heap.size, 0, none⟩, n, by rw [show ((List.range n).map (outF F ps n k)).length = n from by simp]; rfl, by simp, HRR.out⟩, HX2.out.trans HX.out⟩
        | succ gh =>
          have hk : k < d := by omega
          have hkI : (k : Int) < (d : Int) := by omega
          have hkm : (k : Int) < (i : Int) := by omega
          obtain ⟨bi, oi, rfl, hci⟩ := (HIR.out.ext HX.out) k (by have := HD.out; omega)
          obtain ⟨Bk, ck, hck, _, hNk, hrk, _⟩ := (HLR.out.ext HX.out) k (by omega)
          obtain ⟨bk, ok, rfl, hcv⟩ := hrk.2 n (by rw [tab_len]; omega)
          rw [co_tab, if_pos (by omega)] at hcv
          have hplt : co ps k < n := HRD.out.lt k (by have := HD.out; omega)
          have hpI : ((co ps k : Nat) : Int) < (n : Int) := by omega
          have hnI : (n : Int) < ((n + 1 : Nat) : Int) := by omega
          have hnI2 : (n : Int) < (n : Int) + 1 := by omega
          have hc2 := HK.out.cell (co ps k) hplt
          have hfz := HK.out.frozen (co ps k)
          have HST := Lib.hid (fun q => (HK.out.drewN q).store (co ps k) (F k n))
          have HEX := Lib.hid (fun q => (HX.out.drewN q).setCell (p := ⟨w2.heap.size, co ps k, none⟩) (Nat.le_refl _) (.int .u8 ((F k n : Nat) : Int)))
          clear hrk
          go_wp2
          refine wp_region_quiet_tail 13 (fun w' => ∃ q, w' = wr.drewN q) (by kernel_rfl) (by kernel_rfl) ⟨1, rfl⟩ ?_
          simp only [List.take_succ_cons, List.take_zero, List.drop_succ_cons, List.drop_zero]
          repeat (quiet_step (fail))
          refine wpQuiet_nil ?_
          rintro _ ⟨q2, rfl⟩
          go_wp2
          go_roundg gh
          case measure => omega
          case rel => exact ⟨k + 1, by omega, by go_num, HST.out q2, HEX.out q2⟩
    | succ gh =>
      have hi : i < m := by omega
      have hiI : (i : Int) < (m : Int) := by omega
      obtain ⟨Bk, ck, hck, _, hNk, hrk, _⟩ := HLR.out i hi
      obtain ⟨bk, ok, rfl, hcv⟩ := hrk.2 n (by rw [tab_len]; omega)
      rw [co_tab, if_pos (by omega)] at hcv
      have hnI : (n : Int) < ((n + 1 : Nat) : Int) := by omega
      have hnI2 : (n : Int) < (n : Int) + 1 := by omega
      clear hrk
      by_cases h0 : F i n = 0
      · have t0 : (((F i n : Nat) : Int) != 0) = false := by simp [h0]
        have H0 := Lib.hid h0
        clear h0
        go_wp2
        go_roundg gh
        case measure => omega
        case rel => exact ⟨i + 1, by omega, by omega, by go_num, rfl, fun j h1 h2 => by
          by_cases e : j = i
          · rw [e]; exact H0.out
          · exact HZ.out j h1 (by omega)⟩
      · have t0 : (((F i n : Nat) : Int) != 0) = true := by simp; omega
        have HNO := Lib.hid (HRD.out.none (i := i) (by have := HD.out; omega) hi h0)
        clear h0
        go_wp2
        go_ret2
        exact .inr ⟨HNO.out, _, rfl, sl_none _, HX2.out⟩
end Go.Proofs.Ytlncelfacfflhaa

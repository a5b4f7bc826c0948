/-
  What the document's own Reduce of layer 3 does: the rows that come of it are reduced up to a column. Conditions: right rows, no more than 2^16 elements and rows.
-/
import Derived.Test.YtlncelfacfflhaaLRows
import Derived.Deep.RegionHeld3
import Derived.Deep.DeepCutAuto
namespace Go.Proofs.Ytlncelfacfflhaa
open Go.RowKit
open Pol (co Sm)
open Lin (Red stepF)

/-- Rows as numbers. -/
def num (rows : List (List Nat)) (i k : Nat) : Nat := co (ro rows i) k
/-- The kernel of rows of N elements. -/
def KR (N : Nat) (rows : List (List Nat)) : (Nat → Nat) → Prop := Lin.Ker rows.length N (num rows)
/-- What Reduce hands back. -/
def Reduced (m : Nat) (K : (Nat → Nat) → Prop) (N c : Nat) (w : World) (e : Ending) (w' : World) : Prop :=
  ∃ (g cl : Nat) (fv : Value) (F : Nat → Nat → Nat) (ps : List Nat), e = .returned (.tuple #[.slice (some ⟨g, 0, none⟩) m cl, fv]) ∧ m ≤ cl ∧ LRows w' g m N F (fun b => b = g) ∧ Red m N c K F ps ∧ (∃ B cb, fv = .slice B ps.length cb ∧ IRd w' B ps) ∧ Ext w w'

theorem mineR_lrows {w : World} {base : Nat} {v : Value} {rows : List (List Nat)} {N : Nat} (h : MineR w base v rows) (hm : 0 < rows.length) (hN : ∀ i, i < rows.length → (ro rows i).length = N) :
    ∃ g c, v = .slice (some ⟨g, 0, none⟩) rows.length c ∧ base ≤ g ∧ g < w.heap.size ∧ rows.length ≤ c ∧ LRows w g rows.length N (num rows) (fun b => b = g) := by
  obtain ⟨vs, hown, hv, hf⟩ := h.has
  rcases hown.2 with ⟨rfl, hn⟩ | ⟨g, cap, cur, rfl, hb, hg, hnc, _, _, htake⟩
  · omega
  · refine ⟨g, cap, rfl, hb, (h.block g rfl).2, hnc, fun i hi => ?_⟩
    obtain ⟨B, c, h1, h2, h3⟩ := hv.2 i hi
    rw [hN i hi] at h1 h2
    refine ⟨B, c, ?_, frozen_of_row w g i cur _ hg, h2, ?_, fun b o e hN' hx => ?_⟩
    · rw [cell_of_row w g i cur _ _ hg, ← h1, ← htake, List.getElem?_take, if_pos (by omega)]
      simp
    · have : tab N (num rows i) = ro rows i := by
        rw [← hN i hi]
        exact tab_co (ro rows i)
      rw [this]
      exact h3
    · exact hf i b o N c (by rw [h1, e]) hN' (by rw [hx]; rfl)

/-- The rows while one column is taken off: row d is the new one, rows below i are done. -/
def midF (F : Nat → Nat → Nat) (d t c i : Nat) (j : Nat) : Nat → Nat := if j = d then fun k => Gf.mul (F t k) (Gf.quo 1 (F t c)) else if j < i then stepF F d t c j else if j = t then F d else F j
theorem midF_start (F : Nat → Nat → Nat) (d t c j : Nat) : (fun i => if i = d then (fun k => Gf.mul (F t k) (Gf.quo 1 (F t c))) else (fun i => if i = t then F d else F i) i) j = midF F d t c 0 j := by
  unfold midF
  dsimp only
  by_cases h : j = d
  · rw [if_pos h, if_pos h]
  · rw [if_neg h, if_neg h, if_neg (show ¬ j < 0 by omega)]
theorem midF_end (F : Nat → Nat → Nat) (d t c m j k : Nat) (hj : j < m) : midF F d t c m j k = stepF F d t c j k := by
  unfold midF
  by_cases h : j = d
  · rw [if_pos h]; unfold stepF; rw [if_pos h]
  · rw [if_neg h, if_pos hj]
theorem midF_same (F : Nat → Nat → Nat) (d t c j k : Nat) : midF F d t c d j k = midF F d t c (d + 1) j k := by
  unfold midF
  by_cases h : j = d
  · rw [if_pos h, if_pos h]
  · rw [if_neg h, if_neg h]
    by_cases h' : j < d
    · rw [if_pos h', if_pos (show j < d + 1 by omega)]
    · rw [if_neg h', if_neg (show ¬ j < d + 1 by omega)]
theorem midF_step (F : Nat → Nat → Nat) (d t c i j k : Nat) (hi : i ≠ d) : (fun j => if j = i then stepF F d t c i else midF F d t c i j) j k = midF F d t c (i + 1) j k := by
  dsimp only
  unfold midF
  by_cases h : j = i
  · rw [if_pos h, if_neg (by omega), if_pos (by omega), h]
  · rw [if_neg h]
    by_cases hd : j = d
    · rw [if_pos hd, if_pos hd]
    · rw [if_neg hd, if_neg hd]
      by_cases h' : j < i
      · rw [if_pos h', if_pos (show j < i + 1 by omega)]
      · rw [if_neg h', if_neg (show ¬ j < i + 1 by omega)]
theorem midF_at (F : Nat → Nat → Nat) (d t c i k : Nat) (hi : i ≠ d) : midF F d t c i i k = if i = t then F d k else F i k := by
  unfold midF
  rw [if_neg hi, if_neg (by omega)]
  split <;> rfl
theorem stepF_is (F : Nat → Nat → Nat) (d t c i k : Nat) (hi : i ≠ d) : midF F d t c i i k ^^^ Gf.mul (Gf.mul (F t k) (Gf.quo 1 (F t c))) (midF F d t c i i c) = stepF F d t c i k := by
  rw [midF_at F d t c i k hi, midF_at F d t c i c hi]
  unfold stepF
  rw [if_neg hi]

set_option maxHeartbeats 4000000 in
set_option maxRecDepth 100000 in
theorem ref_reduce (rows : List (List Nat)) (A : Option Addr) (ca N cols : Nat) (w : World) (ha : RRd w A rows) (hm : 0 < rows.length) (hml : rows.length ≤ 65536) (hN : ∀ i, i < rows.length → (ro rows i).length = N) (hNl : N ≤ 65536) (hc : cols ≤ N) :
    Calls Try.prog 17 #[.slice A rows.length ca, .int .i64 (cols : Int)] w (Reduced rows.length (KR N rows) N cols w) := by
  have hstart : Red rows.length N 0 (KR N rows) (num rows) [] := Lin.red_start rows.length N (num rows) (fun i k => by
    unfold num
    by_cases h : i < rows.length
    · obtain ⟨_, _, _, _, _, _, _, hr⟩ := ha i h
      exact hr.1 k
    · unfold ro
      rw [List.getElem?_eq_none (by omega)]
      simp [Pol.co_nil])
  have hblk : ∀ i, i < rows.length → ∀ b o n c, (∃ b' o', A = some ⟨b', o', none⟩ ∧ w.cell? ⟨b', o' + i, none⟩ = some (.slice (some ⟨b, o, none⟩) n c)) → 0 < n → b < w.heap.size := by
    rintro i hi b o n c ⟨b', o', e, hc⟩ hn
    obtain ⟨b2, o2, B, c', e', hc', _, hr⟩ := ha i hi
    rw [e] at e'
    injection e' with e'
    injection e' with e1 e2
    subst e1; subst e2
    rw [hc] at hc'
    injection hc' with hc'
    injection hc' with h1 h2 h3
    obtain ⟨b3, o3, e3, hcell⟩ := hr.2 0 (by omega)
    rw [e3] at h1
    injection h1 with h1
    injection h1 with h1 _
    rw [h1]
    exact block_lt_of_cell hcell
  generalize KR N rows = K at *
  generalize hmm : rows.length = m at *
  have HMM := Lib.hid hmm
  have HK := Lib.hid hstart
  have HA := Lib.hid ha
  have HN := Lib.hid hN
  have HB := Lib.hid hblk
  clear hstart ha hN hblk hmm
  go_enter Try.func17, Try.ntmps17
  have hfar : ∀ i, i < rows.length → ∀ b o n c, (∃ b' o', A = some ⟨b', o', none⟩ ∧ (w.alloc (.cells #[] 27)).cell? ⟨b', o' + i, none⟩ = some (.slice (some ⟨b, o, none⟩) n c)) → 0 < n → some b ≠ Value.ownBlock (.slice (some ⟨w.heap.size, 0, none⟩) 0 0) := by
    rintro i hi b o n c ⟨b', o', e, hc⟩ hn e'
    obtain ⟨b2, o2, B, c', e2, hc', _, hr⟩ := HA.out i hi
    rw [e] at e2
    injection e2 with e2
    injection e2 with e3 e4
    subst e3; subst e4
    have hcc := (((Ext.refl w).alloc (.cells #[] 27)).below.cell (p := ⟨b', o' + i, none⟩) (block_lt_of_cell hc')).symm.trans hc
    have := HB.out i (by rw [← HMM.out]; exact hi) b o n c ⟨b', o', e, hcc⟩ hn
    injection e' with e'
    have e5 : b = w.heap.size := e'
    omega
  have HFAR := Lib.hid hfar
  clear hfar
  go_wp2_with (at_builtin; refine wpList_append_rows rfl (.tmp 15) (.tmp 16) rfl w.heap.size (.slice (some ⟨w.heap.size, 0, none⟩) 0 0) [] rows rfl (mineR_empty w) A m ca rfl HMM.out (HA.out.ext ((Ext.refl _).alloc _)) HFAR.out (by rw [HMM.out]; simp; omega) (by simp) ?_; intro v' w1 hown' hg' hat')
  rw [List.nil_append] at hown'
  have hx1 : Ext w w1 := ((Ext.refl w).alloc _).more hg' (by intro k hk; simp [Value.ownBlock] at hk; omega)
  obtain ⟨gl, cl, hv, hgl1, hgl2, hcl, hlr⟩ := mineR_lrows hown' (by rw [HMM.out]; exact hm) (by rw [HMM.out]; exact HN.out)
  rw [HMM.out] at hv hcl hlr
  subst hv
  have HLR := Lib.hid hlr
  have HX1 := Lib.hid hx1
  clear hown' hg' hat' hlr hx1 HFAR HB HA HN
  go_loopg [7, 8, 9] cols (fun gh s7 s8 s9 wx => ∃ (c : Nat) (F : Nat → Nat → Nat) (ps : List Nat), c + gh = cols ∧ s9 = .int .i64 (c : Int) ∧ s8 = .int .i64 (ps.length : Int) ∧ IMine wx w.heap.size s7 ps ∧ LRows wx gl m N F (fun b => b = gl ∨ s7.ownBlock = some b) ∧ Red m N c K F ps ∧ (∀ k, s7.ownBlock = some k → k ≠ gl) ∧ Ext w wx)
  case atStart => exact ⟨0, num rows, [], by omega, rfl, rfl, IMine.nil _ _, HLR.out.avoid (fun b _ h => h.elim id (fun e => by simp [Value.ownBlock] at e)), HK.out, fun k h => by simp [Value.ownBlock] at h, HX1.out⟩
  case round =>
    obtain ⟨c, F, ps, hcg, rfl, rfl, him, hlr, hred, hsep, hx⟩ := hrel
    have HIM := Lib.hid him
    have HLR := Lib.hid hlr
    have HRED := Lib.hid hred
    have HSEP := Lib.hid hsep
    have HX := Lib.hid hx
    have hdm : ps.length ≤ m := hred.few
    obtain ⟨d, hd⟩ : ∃ d, ps.length = d := ⟨_, rfl⟩
    rw [hd] at hdm ⊢
    have HD := Lib.hid hd
    clear him hlr hred hsep hx hd
    cases gk with
    | zero =>
      obtain rfl : c = cols := by omega
      clear hcg
      obtain ⟨B, cb, rfl, _, hir⟩ := HIM.out.slice
      have HIR := Lib.hid hir
      clear hir
      go_wp2
      go_ret2
      exact ⟨gl, cl, _, F, ps, rfl, hcl, HLR.out.avoid (fun b _ h => .inl h), HRED.out, ⟨B, cb, rfl, HIR.out⟩, HX.out⟩
    | succ g =>
      have hcI : (c : Int) < (cols : Int) := by omega
      have hcN : c < N := by omega
      have hcNI : (c : Int) < (N : Int) := by omega
      go_wp2
      go_loopg [10] (m - d) (fun g2 s wx => ∃ t : Nat, t + g2 = m ∧ d ≤ t ∧ s = .int .i64 (t : Int) ∧ wx = wr ∧ ∀ i, d ≤ i → i < t → F i c = 0)
      case atStart => exact ⟨d, by omega, Nat.le_refl _, rfl, rfl, fun i h1 h2 => by omega⟩
      case round =>
        obtain ⟨t, htg, hdt, rfl, rfl, hzz⟩ := hrel
        have HZZ := Lib.hid hzz
        clear hzz
        cases gk with
        | zero =>
          obtain rfl : t = m := by omega
          clear htg
          have hskip := HRED.out.skip hcN (fun i h1 h2 => HZZ.out i (by have := HD.out; omega) h2)
          have HSK := Lib.hid hskip
          clear hskip
          go_wp2
          go_roundg g
          case measure => omega
          case rel => exact ⟨c + 1, F, ps, by omega, by go_num, by rw [HD.out], HIM.out, HLR.out, HSK.out, HSEP.out, HX.out⟩
        | succ g2 =>
          have htm : t < m := by omega
          have htI : (t : Int) < (m : Int) := by omega
          obtain ⟨Bt, ct, hct, hft, hNt, hrt, hst⟩ := HLR.out t htm
          obtain ⟨bt', ot, rfl, hcell⟩ := hrt.2 c (by rw [tab_len]; exact hcN)
          rw [co_tab, if_pos hcN] at hcell
          have hFb := HRED.out.bytes t c
          have HRT := Lib.hid hrt
          have HST := Lib.hid hst
          clear hrt hst
          by_cases h0 : F t c = 0
          · have ht0 : (((F t c : Nat) : Int) == 0) = true := by simp [h0]
            have H0 := Lib.hid h0
            clear h0
            go_wp2
            go_roundg g2
            case measure => omega
            case rel => exact ⟨t + 1, by omega, by omega, by go_num, rfl, fun i h1 h2 => by
              by_cases e : i = t
              · rw [e]; exact H0.out
              · exact HZZ.out i h1 (by omega)⟩
          · have ht0 : (((F t c : Nat) : Int) == 0) = false := by simp; omega
            have htm2 : ((t : Int) == (m : Int)) = false := by simp; omega
            have H0 := Lib.hid h0
            have HINV := Lib.hid (fun W => ref_inv (F t c) hFb h0 W)
            clear h0
            obtain ⟨iv', hiv⟩ : ∃ v, Gf.quo 1 (F t c) = v := ⟨_, rfl⟩
            have hivb : iv' < 256 := by rw [← hiv]; exact Gf.quo_lt _ _
            rw [hiv] at HINV
            have HIV := Lib.hid hiv
            clear hiv
            go_wp2_with fail
            refine (HINV.out _).mono ?_
            rintro e w2 ⟨rfl, rfl⟩
            go_wp2_with fail
            refine (scaled_tab N (F t) (some ⟨bt', ot, none⟩) ct iv' wr HRT.out hivb hNl).mono ?_
            rintro e w4 ⟨R, cR, rfl, hcR, hrR, hfR, hx4⟩
            have hl4 := HLR.out.ext hx4
            obtain ⟨Bd, cd, hcd, hfd, hNd, hrd, hsd⟩ := hl4 d (by omega)
            obtain ⟨_, _, hct4, hft4, _⟩ := hl4 t htm
            have hgX : (fun b => b = gl ∨ u7.ownBlock = some b) gl := .inl rfl
            have hl5 := hl4.store hgX t Bd cd (F d) hNd hrd hsd
            obtain ⟨_, _, hcd5, hfd5, _⟩ := hl5 d (by omega)
            have hRX : ∀ b o, R = some ⟨b, o, none⟩ → 0 < N → ¬ (fun b => b = gl ∨ u7.ownBlock = some b) b := fun b o e _ h => by
              have h1 := hfR b o e
              rcases h with h | h
              · have : gl < wr.heap.size := block_lt_of_cell hct
                omega
              · have := (HIM.out.block b h).2
                omega
            have hr5 : Rd (w4.setCell ⟨gl, t, none⟩ (.slice Bd N cd)) R (tab N (fun k => Gf.mul (F t k) iv')) := by
              refine ⟨hrR.1, fun j hj => ?_⟩
              obtain ⟨b, o, e, hcl'⟩ := hrR.2 j hj
              rw [tab_len] at hj
              exact ⟨b, o, e, (grownBy_cell w4 gl t _).cell hcl' (fun e' => hRX b o e (by omega) (.inl (by injection e')))⟩
            have hl6 := hl5.store hgX d R cR (fun k => Gf.mul (F t k) iv') hcR hr5 hRX
            have hx6 : Ext w ((w4.setCell ⟨gl, t, none⟩ (.slice Bd N cd)).setCell ⟨gl, d, none⟩ (.slice R N cR)) := (((HX.out.trans hx4).setCell (p := ⟨gl, t, none⟩) hgl1 _)).setCell (p := ⟨gl, d, none⟩) hgl1 _
            have hi6 : IMine ((w4.setCell ⟨gl, t, none⟩ (.slice Bd N cd)).setCell ⟨gl, d, none⟩ (.slice R N cR)) w.heap.size u7 ps := ((HIM.out.ext hx4).keep (grownBy_cell w4 gl t _) (fun k h e => HSEP.out k h (by injection e))).keep (grownBy_cell _ gl d _) (fun k h e => HSEP.out k h (by injection e))
            have hr6 : Rd ((w4.setCell ⟨gl, t, none⟩ (.slice Bd N cd)).setCell ⟨gl, d, none⟩ (.slice R N cR)) R (tab N (fun k => Gf.mul (F t k) iv')) := by
              refine ⟨hr5.1, fun j hj => ?_⟩
              obtain ⟨b, o, e, hcl'⟩ := hr5.2 j hj
              rw [tab_len] at hj
              exact ⟨b, o, e, (grownBy_cell _ gl d _).cell hcl' (fun e' => hRX b o e (by omega) (.inl (by injection e')))⟩
            have HL6 := Lib.hid hl6
            have HX6 := Lib.hid hx6
            have HI6 := Lib.hid hi6
            have HR6 := Lib.hid hr6
            have HRX := Lib.hid hRX
            have hdI : (d : Int) < (m : Int) := by omega
            have hdm' : d < m := by omega
            clear hl4 hl5 hl6 hx6 hi6 hr5 hr6 hRX hgX hrR hfR hx4 hrd hsd HINV HRT HST
            go_upto_region 15 with (fail)
            obtain ⟨w6, hw6⟩ : ∃ u, (w4.setCell ⟨gl, t, none⟩ (.slice Bd N cd)).setCell ⟨gl, d, none⟩ (.slice R N cR) = u := ⟨_, rfl⟩
            rw [hw6] at HL6 HX6 HI6 HR6 ⊢
            have hlm : LRows w6 gl m N (midF F d t c 0) (fun b => b = gl ∨ u7.ownBlock = some b) := HL6.out.congr (fun i _ k _ => by
              rw [← midF_start, HIV.out])
            have HLM := Lib.hid hlm
            clear hw6 hlm HL6 hct hft hcell hcd hfd hct4 hft4 hcd5 hfd5
            go_wp2
            go_loopg [74] m (fun g3 s wx => ∃ i : Nat, i + g3 = m ∧ s = .int .i64 (i : Int) ∧ LRows wx gl m N (midF F d t c i) (fun b => b = gl ∨ u7.ownBlock = some b) ∧ Rd wx R (tab N (fun k => Gf.mul (F t k) iv')) ∧ IMine wx w.heap.size u7 ps ∧ Ext w wx)
            case atStart => exact ⟨0, by omega, rfl, HLM.out, HR6.out, HI6.out, HX6.out⟩
            case round =>
              obtain ⟨i, hig, rfl, hlr, hrr, him, hxx⟩ := hrel
              have HLI := Lib.hid hlr
              have HRI := Lib.hid hrr
              have HII := Lib.hid him
              have HXI := Lib.hid hxx
              clear hlr hrr him hxx
              cases gk with
              | zero =>
                obtain rfl : i = m := by omega
                clear hig
                have hstep := HRED.out.step hcN t (by have := HD.out; omega) htm H0.out
                rw [HD.out] at hstep
                have HSTEP := Lib.hid hstep
                have hlen : ps.length + 1 ≤ 1048576 := by have := HD.out; omega
                clear hstep
                go_wp2_with (at_builtin; refine wpList_append_int rfl (.tmp 98) (.tmp 100) rfl w.heap.size u7 ps c rfl (HII.out.ext ((Ext.refl _).alloc _)) wr.heap.size 1 rfl (by rw [cell_of_row _ _ _ _ _ _ (heap_alloc_new wr _)]; rfl) hlen (by have := HXI.out.size; simp; omega) ?_; intro v' w9 hown' hg' hat')
                have hgl9 : gl < wr.heap.size := by
                  obtain ⟨_, _, h1, _⟩ := HLI.out d hdm'
                  exact block_lt_of_cell h1
                have hl := (HLI.out.congr (F' := stepF F d t c) (fun j hj k _ => midF_end F d t c i j k hj)).ext ((Ext.refl wr).alloc (.cells #[.int .i64 (c : Int)] 3))
                have h1 : LRows (wr.alloc (.cells #[.int .i64 (c : Int)] 3)) gl i N (stepF F d t c) (fun b => (b = gl ∨ u7.ownBlock = some b) ∨ (b = gl ∨ v'.ownBlock = some b)) := hl.avoid (fun b hb h => h.elim id (fun h => h.elim .inl (fun e => hat'.elim (fun e' => .inr (e' ▸ e)) (fun e' => by
                  rw [e'] at e
                  injection e with e
                  omega))))
                have h2 := h1.keep hg' (fun e => HSEP.out gl e.symm rfl) (fun b e => .inl (.inr e))
                have h3 : LRows w9 gl i N (stepF F d t c) (fun b => b = gl ∨ v'.ownBlock = some b) := h2.avoid (fun b _ h => .inr h)
                have hsep' : ∀ k, v'.ownBlock = some k → k ≠ gl := fun k e => by
                  rcases hat' with e' | e'
                  · exact HSEP.out k (e' ▸ e)
                  · rw [e'] at e
                    injection e with e
                    simp at e
                    omega
                have hx9 : Ext w w9 := (HXI.out.alloc _).more hg' (fun k e => (HII.out.block k e).1)
                have HOWN := Lib.hid hown'
                have H3 := Lib.hid h3
                have HS9 := Lib.hid hsep'
                have HX9 := Lib.hid hx9
                clear hown' hg' hat' hl h1 h2 h3 hsep' hx9
                go_wp2
                go_roundg g
                case measure => omega
                case rel => exact ⟨c + 1, stepF F d t c, ps ++ [c], by omega, by go_num, by rw [List.length_append, HD.out]; simp, HOWN.out, H3.out, HSTEP.out, HS9.out, HX9.out⟩
              | succ g3 =>
                have hi : i < m := by omega
                have hiI : (i : Int) < (m : Int) := by omega
                by_cases hid : i = d
                · have hne : ((i : Int) != (d : Int)) = false := by subst hid; simp
                  have HID := Lib.hid hid
                  clear hid
                  go_wp2
                  go_roundg g3
                  case measure => omega
                  case rel => exact ⟨i + 1, by omega, by go_num, HLI.out.congr (fun j _ k _ => by rw [HID.out]; exact midF_same F d t c j k), HRI.out, HII.out, HXI.out⟩
                · have hne : ((i : Int) != (d : Int)) = true := by simp; omega
                  have HID := Lib.hid hid
                  clear hid
                  obtain ⟨Bi, ci, hci, hfi, hNi, hri, hsi⟩ := HLI.out i hi
                  obtain ⟨bi, oi, rfl, hcc⟩ := hri.2 c (by rw [tab_len]; exact hcN)
                  have hvb := hri.1 c
                  rw [co_tab, if_pos hcN] at hcc hvb
                  obtain ⟨vv, hvv⟩ : ∃ vv, midF F d t c i i c = vv := ⟨_, rfl⟩
                  rw [hvv] at hcc hvb
                  have HRW := Lib.hid hri
                  have HVV := Lib.hid hvv
                  have HSC := Lib.hid (scaled_tab N (fun k => Gf.mul (F t k) iv') R cR vv wr.drew (HRI.out.drewN 1) hvb hNl)
                  have hglr : gl < wr.heap.size := block_lt_of_cell hci
                  have hbir : bi < wr.heap.size := block_lt_of_cell hcc
                  clear hri hsi hvv
                  go_wp2
                  go_region_with
                    (first
                      | (go_at_call 28; refine HSC.out.mono ?_; rintro e w4 ⟨B4, c4, rfl, hc4, hr4, hf4, hx4⟩
                         have z1 : w4.cell? ⟨gl, i, none⟩ = some (.slice (some ⟨bi, oi, none⟩) N ci) := (hx4.below.cell (p := ⟨gl, i, none⟩) hglr).trans hci
                         have z2 : w4.cell? ⟨bi, oi + c, none⟩ = some (.int .u8 (vv : Int)) := (hx4.below.cell (p := ⟨bi, oi + c, none⟩) hbir).trans hcc
                         have z3 : w4.frozen? ⟨gl, i, none⟩ = false := (hx4.below.frozen (p := ⟨gl, i, none⟩) hglr).trans hfi
                         have HR4 := Lib.hid hr4
                         have HX4 := Lib.hid (show Ext wr w4 from ((Ext.refl wr).drew).trans hx4)
                         clear hr4 hf4 hx4)
                      | (go_at_call 29; refine (plus_tab N (midF F d t c i i) (fun k => Gf.mul (Gf.mul (F t k) iv') vv) (some ⟨bi, oi, none⟩) B4 ci c4 w4 (HRW.out.ext HX4.out) HR4.out hNl).mono ?_; rintro e w5 ⟨B5, c5, rfl, hc5, hr5, hf5, hx5⟩
                         have y1 : w5.cell? ⟨gl, i, none⟩ = some (.slice (some ⟨bi, oi, none⟩) N ci) := (hx5.below.cell (p := ⟨gl, i, none⟩) (block_lt_of_cell z1)).trans z1
                         have y2 : w5.cell? ⟨bi, oi + c, none⟩ = some (.int .u8 (vv : Int)) := (hx5.below.cell (p := ⟨bi, oi + c, none⟩) (block_lt_of_cell z2)).trans z2
                         have y3 : w5.frozen? ⟨gl, i, none⟩ = false := (hx5.below.frozen (p := ⟨gl, i, none⟩) (block_lt_of_cell z1)).trans z3
                         have HR5 := Lib.hid hr5
                         have HF5 := Lib.hid hf5
                         have HX5 := Lib.hid (HX4.out.trans hx5)
                         have hs45 : wr.heap.size ≤ w4.heap.size := HX4.out.size
                         clear hr5 hf5 hx5))
                  all_goals
                    have hB5 : ∀ b o, B5 = some ⟨b, o, none⟩ → 0 < N → ¬ (b = gl ∨ u7.ownBlock = some b) := fun b o e _ h => by
                      have h1 := HF5.out b o e
                      rcases h with h | h
                      · omega
                      · have := (HII.out.block b h).2
                        omega
                    have hl5 := (HLI.out.ext HX5.out).store (.inl rfl) i B5 c5 (fun k => midF F d t c i i k ^^^ Gf.mul (Gf.mul (F t k) iv') vv) hc5 HR5.out hB5
                    have hl6 := hl5.congr (F' := midF F d t c (i + 1)) (fun j _ k _ => by
                      rw [← midF_step F d t c i j k HID.out]
                      dsimp only
                      by_cases e : j = i
                      · rw [if_pos e, if_pos e, ← stepF_is F d t c i k HID.out, HVV.out, HIV.out]
                      · rw [if_neg e, if_neg e])
                    have hr6 : Rd (w5.setCell ⟨gl, i, none⟩ (.slice B5 N c5)) R (tab N (fun k => Gf.mul (F t k) iv')) := by
                      have h0 := HRI.out.ext HX5.out
                      refine ⟨h0.1, fun j hj => ?_⟩
                      obtain ⟨b, o, e, hcl'⟩ := h0.2 j hj
                      rw [tab_len] at hj
                      exact ⟨b, o, e, (grownBy_cell w5 gl i _).cell hcl' (fun e' => HRX.out b o e (by omega) (.inl (by injection e')))⟩
                    have hi6 : IMine (w5.setCell ⟨gl, i, none⟩ (.slice B5 N c5)) w.heap.size u7 ps := (HII.out.ext HX5.out).keep (grownBy_cell w5 gl i _) (fun k h e => HSEP.out k h (by injection e))
                    have hx6 : Ext w (w5.setCell ⟨gl, i, none⟩ (.slice B5 N c5)) := (HXI.out.trans HX5.out).setCell (p := ⟨gl, i, none⟩) hgl1 _
                    have HL7 := Lib.hid hl6
                    have HR7 := Lib.hid hr6
                    have HI7 := Lib.hid hi6
                    have HX7 := Lib.hid hx6
                    clear hl5 hl6 hr6 hi6 hx6 hB5
                    go_wp2
                    go_roundg g3
                    case measure => omega
                    case rel => exact ⟨i + 1, by omega, by go_num, HL7.out, HR7.out, HI7.out, HX7.out⟩
end Go.Proofs.Ytlncelfacfflhaa

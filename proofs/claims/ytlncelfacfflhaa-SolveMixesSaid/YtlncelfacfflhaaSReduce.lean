/-
  What reduce of layer 3 does: rows in blocks of their own are reduced in place, up to a column, and the columns of the first coefficients are told. Conditions: a field that New made, rows apart from it, no more than 2^16 elements and rows, at least one.
-/
import Derived.Test.YtlncelfacfflhaaSLead
import Derived.BigRegion
import Derived.WalkMore
namespace Go.Proofs.Ytlncelfacfflhaa
open Go.RowKit
open Pol (co Sm)
open Lin (Red stepF)

theorem Only.more {X : Nat → Prop} {a w w' : World} {row : Option Nat} (h : Only X a w) (hg : w.grownBy w' row) (hr : ∀ k, row = some k → a.heap.size ≤ k) : Only X a w' :=
  ⟨hg.os.trans h.os, hg.tape.trans h.tape, hg.output.trans h.output, Nat.le_trans h.size hg.size, fun k hk hx => (hg.block k (Nat.lt_of_lt_of_le hk h.size) (fun e => by have := hr k e.symm; omega)).trans (h.block k hk hx)⟩

/-- What reduce hands back: the columns; the rows are reduced. -/
def Reds (g m N cols : Nat) (blk : Nat → Nat) (K : (Nat → Nat) → Prop) (w : World) (e : Ending) (w' : World) : Prop :=
  ∃ (B : Option Addr) (cb : Nat) (ps : List Nat) (blk' : Nat → Nat) (F' : Nat → Nat → Nat), e = .returned (.tuple #[.slice B ps.length cb, .int .i64 0]) ∧ ps.length ≤ cb ∧ IRd w' B ps ∧ Mat w' g m N blk' F' ∧ Red m N cols K F' ps ∧ Only (fun b => b = g ∨ InRows m blk b) w w'

/-- Two rows have changed places: what lead needs, and what it leaves. -/
structure Swapped (g m N c d : Nat) (bl : Nat → Nat) (K : (Nat → Nat) → Prop) (ps : List Nat) (w W : World) (bl2 : Nat → Nat) (G2 : Nat → Nat → Nat) : Prop where
  mat : Mat W g m N bl2 G2
  red : Red m N (c + 1) K (leadF G2 d c) (ps ++ [c])
  inn : ∀ i, i < m → ∃ j, j < m ∧ bl2 i = bl j
  ne : G2 d c ≠ 0
  bytes : ∀ i j, G2 i j < 256
  grown : w.grownBy W (some g)
theorem swapped {g m N c d t cd ct : Nat} {bl : Nat → Nat} {K : (Nat → Nat) → Prop} {G : Nat → Nat → Nat} {ps : List Nat} {w : World} (hm : Mat w g m N bl G) (hr : Red m N c K G ps) (hd : ps.length = d) (hdt : d ≤ t) (htm : t < m) (hc : c < N) (hne : G t c ≠ 0) (hcd : N ≤ cd) (hct : N ≤ ct) :
    ∃ bl2 G2, Swapped g m N c d bl K ps w ((w.setCell ⟨g, d, none⟩ (.slice (some ⟨bl t, 0, none⟩) N ct)).setCell ⟨g, t, none⟩ (.slice (some ⟨bl d, 0, none⟩) N cd)).drew bl2 G2 :=
  ⟨_, _, {
    mat := (hm.swap d t (by omega) htm cd ct hcd hct).drewN 1
    red := by
      have h := hr.step hc t (by omega) htm hne
      rw [hd] at h
      rwa [show leadF (fun r => G (swp d t r)) d c = stepF G d t c from funext fun i => funext fun j => lead_step G d t c (fun j hj => hr.rest t (by omega) htm j hj) i j]
    inn := fun i hi => ⟨swp d t i, swp_lt (by omega) htm hi, rfl⟩
    ne := by
      show G (swp d t d) c ≠ 0
      rw [show swp d t d = t from by unfold swp; rw [if_pos rfl]]
      exact hne
    bytes := fun i j => hr.bytes _ _
    grown := ((grown_set w g d _).trans (grown_set _ g t _)).trans (grown_drewN _ 1 _) }⟩

set_option maxHeartbeats 4000000 in
set_option maxRecDepth 1000000 in
theorem s_reduce (f g m N cr cols : Nat) (blk : Nat → Nat) (K : (Nat → Nat) → Prop) (F : Nat → Nat → Nat) (w : World) (hf : IsField w f) (hm : Mat w g m N blk F) (hred : Red m N 0 K F []) (hfb : ∀ i, i < m → blk i ≠ f) (hfg : f ≠ g)
    (hm0 : 0 < m) (hN0 : 0 < N) (hcols : cols ≤ N) (hmb : m ≤ 65536) (hNb : N ≤ 65536) :
    Calls Try.prog 26 #[.pointer (some ⟨f, 0, none⟩), .slice (some ⟨g, 0, none⟩) m cr, .int .i64 (cols : Int)] w (Reds g m N cols blk K w) := by
  have hgl : g < w.heap.size := by obtain ⟨_, h, _⟩ := hm.row 0 hm0; exact block_lt_of_cell h
  have HBL := Lib.hid (fun i hi => hm.lt hN0 i hi)
  have HF := Lib.hid hf
  have HM := Lib.hid hm
  have HFB := Lib.hid hfb
  have HFG := Lib.hid hfg
  have HRED := Lib.hid hred
  clear hf hm hfb hfg hred
  go_enter Try.func26, Try.ntmps26
  go_wp2
  go_step3
  go_wp2
  go_step3
  go_wp2
  go_loopg [8, 15] cols (fun gh s8 s15 wx => ∃ (c : Nat) (F : Nat → Nat → Nat) (ps : List Nat) (bl : Nat → Nat), c + gh = cols ∧ s15 = .int .i64 (c : Int) ∧ IMine wx w.heap.size s8 ps ∧ Mat wx g m N bl F ∧ Red m N c K F ps ∧ (∀ i, i < m → InRows m blk (bl i)) ∧ Only (fun b => b = g ∨ InRows m blk b) w wx)
  case atStart => exact ⟨0, F, [], blk, by omega, rfl, World.ownsRow_lit w #[] 0 (Nat.le_refl _) (Nat.zero_le _) rfl, HM.out.ext ((Ext.refl w).alloc _), HRED.out, fun i hi => ⟨i, hi, rfl⟩, Only.of_ext ((Ext.refl w).alloc _)⟩
  case round =>
    obtain ⟨c, G, ps, bl, hcg, rfl, him, hmat, hrd, hin, hon⟩ := hrel
    have HIM := Lib.hid him
    have HMT := Lib.hid hmat
    have HRD := Lib.hid hrd
    have HIN := Lib.hid hin
    have HON := Lib.hid hon
    have hdm := hrd.few
    obtain ⟨B8, c8, rfl, hc8, hir⟩ := him.slice
    have HIR := Lib.hid hir
    clear him hmat hrd hin hon hir
    obtain ⟨d, hd⟩ : ∃ d, ps.length = d := ⟨_, rfl⟩
    rw [hd] at hdm HIM hc8 ⊢
    have HD := Lib.hid hd
    clear hd
    cases gk with
    | zero =>
      obtain rfl : c = cols := by omega
      clear hcg
      go_wp2
      go_ret2
      exact ⟨B8, c8, ps, bl, G, by rw [HD.out]; rfl, by rw [HD.out]; exact hc8, HIR.out, HMT.out, HRD.out, HON.out⟩
    | succ gh =>
      have hcI : (c : Int) < (cols : Int) := by omega
      have hcN : c < N := by omega
      have hcNI : (c : Int) < (N : Int) := by omega
      obtain ⟨wo, hwo⟩ : ∃ wo, wo = wr := ⟨_, rfl⟩
      subst hwo
      go_wp2
      go_loopg [8, 11] (m - d) (fun g2 s8 s11 wx => ∃ t : Nat, t + g2 = m ∧ d ≤ t ∧ s8 = .slice B8 d c8 ∧ s11 = .int .i64 (t : Int) ∧ wx = wo ∧ ∀ i, d ≤ i → i < t → G i c = 0)
      case atStart => exact ⟨d, by omega, Nat.le_refl _, rfl, rfl, rfl, fun i h1 h2 => by omega⟩
      case round =>
        obtain ⟨t, htg, hdt, rfl, rfl, rfl, hzz⟩ := hrel
        have HZZ := Lib.hid hzz
        clear hzz
        cases gk with
        | zero =>
          obtain rfl : t = m := by omega
          clear htg
          have hskip := HRD.out.skip hcN (fun i h1 h2 => HZZ.out i (by have := HD.out; omega) h2)
          have HSK := Lib.hid hskip
          clear hskip
          go_wp2
          go_roundg gh
          case measure => omega
          case rel => exact ⟨c + 1, G, ps, bl, by omega, by go_num, HIM.out, HMT.out, HSK.out, HIN.out, HON.out⟩
        | succ g2 =>
          have htm : t < m := by omega
          have htI : (t : Int) < (m : Int) := by omega
          have hdm' : d < m := by omega
          have hdI : (d : Int) < (m : Int) := by omega
          obtain ⟨ct, hct, hft, hNt⟩ := HMT.out.row t htm
          have hcc := ((HMT.out.has t htm) c hcN).1
          have hvb := HRD.out.bytes t c
          obtain ⟨x, hx⟩ : ∃ x, G t c = x := ⟨_, rfl⟩
          rw [hx] at hcc hvb
          by_cases h0 : x = 0
          · have t0 : ((x : Int) == 0) = true := by simp [h0]
            have H0 := Lib.hid (hx.trans h0)
            clear h0 hx
            go_wp2
            go_roundg g2
            case measure => omega
            case rel => exact ⟨t + 1, by omega, by omega, rfl, by go_num, rfl, fun i h1 h2 => by
              by_cases e : i = t
              · rw [e]; exact H0.out
              · exact HZZ.out i h1 (by omega)⟩
          · have t0 : ((x : Int) == 0) = false := by simp; omega
            have HX := Lib.hid hx
            have H0 := Lib.hid h0
            clear hx h0
            obtain ⟨cd, hcd, hfd, hNd⟩ := HMT.out.row d hdm'
            by_cases hdt' : d = t
            · obtain rfl := hdt'
              have hne := fun h => H0.out (HX.out.symm.trans h)
              obtain ⟨bl2, G2, hS⟩ := swapped HMT.out HRD.out HD.out (Nat.le_refl _) htm hcN hne hNd hNd
              have HS := Lib.hid hS
              clear hS hne
              go_wp2
              go_region
              obtain ⟨W2, hW2⟩ : ∃ W, ((wr.setCell ⟨g, d, none⟩ (.slice (some ⟨bl d, 0, none⟩) N cd)).setCell ⟨g, d, none⟩ (.slice (some ⟨bl d, 0, none⟩) N cd)).drew = W := ⟨_, rfl⟩
              rw [hW2] at HS ⊢
              have hfin : ∀ i, i < m → InRows m blk (bl2 i) := fun i hi => by
                obtain ⟨j, hj, e⟩ := HS.out.inn i hi
                rw [e]
                exact HIN.out j hj
              have hon2 : Only (fun b => b = g ∨ InRows m blk b) w W2 := HON.out.trans (Only.of_grown HS.out.grown (fun k e => by injection e with e; exact .inl e.symm))
              have hfw : IsField W2 f := HF.out.only hon2 (fun h => h.elim HFG.out (fun ⟨i, hi, e⟩ => HFB.out i hi e.symm))
              have hapart : ∀ k, Value.ownBlock (.slice B8 d c8) = some k → ¬ (k = g ∨ InRows m blk k) := fun k hk h => by
                have h1 := (HIM.out.block k hk).1
                rcases h with h | ⟨i, hi, h⟩
                · omega
                · have := HBL.out i hi
                  omega
              have him2 : IMine W2 w.heap.size (.slice B8 d c8) ps := HIM.out.only (X := fun b => b = g ∨ InRows m blk b) (Only.of_grown HS.out.grown (fun k e => by injection e with e; exact .inl e.symm)) hapart
              have HL := Lib.hid (s_lead f g m N cr d c bl2 G2 W2 hfw HS.out.mat HS.out.bytes (fun i hi e => by obtain ⟨j, hj, e'⟩ := hfin i hi; exact HFB.out j hj (e' ▸ e)) hdm' hcN HS.out.ne hmb hNb)
              have HON2 := Lib.hid hon2
              have HFIN := Lib.hid hfin
              have HAP := Lib.hid hapart
              have HIM2 := Lib.hid him2
              clear hW2 hfin hon2 hfw hapart him2 hct hft hcd hfd hcc HZZ
              go_wp2_with fail
              refine HL.out.mono ?_
              rintro e w5 ⟨rfl, hm5, ho5⟩
              have ho5' : Only (fun b => b = g ∨ InRows m blk b) W2 w5 := ho5.mono (fun k _ ⟨i, hi, e⟩ => .inr (e ▸ HFIN.out i hi))
              have HM5 := Lib.hid hm5
              have HON5 := Lib.hid (HON2.out.trans ho5')
              have HIM5 := Lib.hid (HIM2.out.only ho5' HAP.out)
              have hlen : ps.length + 1 ≤ 1048576 := by have := HD.out; omega
              clear hm5 ho5 ho5' HL
              go_wp2_with (at_builtin; refine wpList_append_int rfl (.tmp 57) (.tmp 59) rfl w.heap.size (.slice B8 d c8) ps c rfl (HIM5.out.ext ((Ext.refl _).alloc _)) w5.heap.size 1 rfl (by rw [cell_of_row _ _ _ _ _ _ (heap_alloc_new w5 _)]; rfl) hlen (by have := HON5.out.size; simp; omega) ?_; intro v' w9 hown' hg' hat')
              have hw5 := HON5.out.size
              have hgap : ∀ k, k < w.heap.size → some k ≠ Value.ownBlock (.slice B8 d c8) := fun k hk e => by
                have := (HIM5.out.block k e.symm).1
                omega
              have hbl2 : ∀ i, i < m → bl2 i < w.heap.size := fun i hi => by
                obtain ⟨j, hj, e⟩ := HFIN.out i hi
                rw [e]
                exact HBL.out j hj
              have hm9 := (HM5.out.ext ((Ext.refl w5).alloc (.cells #[.int .i64 (c : Int)] 3))).keep hg' (hgap g hgl) (fun i hi => hgap _ (hbl2 i hi))
              have hon9 := (HON5.out.trans (Only.of_ext ((Ext.refl w5).alloc (.cells #[.int .i64 (c : Int)] 3)))).more hg' (fun k e => (HIM5.out.block k e).1)
              have HM9 := Lib.hid hm9
              have HON9 := Lib.hid hon9
              have HOWN := Lib.hid hown'
              clear hown' hg' hat' hm9 hon9 hw5 hgap hbl2
              go_wp2
              go_roundg gh
              case measure => omega
              case rel => exact ⟨c + 1, leadF G2 d c, ps ++ [c], bl2, by omega, by go_num, HOWN.out, HM9.out, HS.out.red, HFIN.out, HON9.out⟩
            · skip
              have hne := fun h => H0.out (HX.out.symm.trans h)
              obtain ⟨bl2, G2, hS⟩ := swapped HMT.out HRD.out HD.out hdt htm hcN hne hNd hNt
              have HS := Lib.hid hS
              clear hS hne
              go_wp2
              go_region
              obtain ⟨W2, hW2⟩ : ∃ W, ((wr.setCell ⟨g, d, none⟩ (.slice (some ⟨bl t, 0, none⟩) N ct)).setCell ⟨g, t, none⟩ (.slice (some ⟨bl d, 0, none⟩) N cd)).drew = W := ⟨_, rfl⟩
              rw [hW2] at HS ⊢
              have hfin : ∀ i, i < m → InRows m blk (bl2 i) := fun i hi => by
                obtain ⟨j, hj, e⟩ := HS.out.inn i hi
                rw [e]
                exact HIN.out j hj
              have hon2 : Only (fun b => b = g ∨ InRows m blk b) w W2 := HON.out.trans (Only.of_grown HS.out.grown (fun k e => by injection e with e; exact .inl e.symm))
              have hfw : IsField W2 f := HF.out.only hon2 (fun h => h.elim HFG.out (fun ⟨i, hi, e⟩ => HFB.out i hi e.symm))
              have hapart : ∀ k, Value.ownBlock (.slice B8 d c8) = some k → ¬ (k = g ∨ InRows m blk k) := fun k hk h => by
                have h1 := (HIM.out.block k hk).1
                rcases h with h | ⟨i, hi, h⟩
                · omega
                · have := HBL.out i hi
                  omega
              have him2 : IMine W2 w.heap.size (.slice B8 d c8) ps := HIM.out.only (X := fun b => b = g ∨ InRows m blk b) (Only.of_grown HS.out.grown (fun k e => by injection e with e; exact .inl e.symm)) hapart
              have HL := Lib.hid (s_lead f g m N cr d c bl2 G2 W2 hfw HS.out.mat HS.out.bytes (fun i hi e => by obtain ⟨j, hj, e'⟩ := hfin i hi; exact HFB.out j hj (e' ▸ e)) hdm' hcN HS.out.ne hmb hNb)
              have HON2 := Lib.hid hon2
              have HFIN := Lib.hid hfin
              have HAP := Lib.hid hapart
              have HIM2 := Lib.hid him2
              clear hW2 hfin hon2 hfw hapart him2 hct hft hcd hfd hcc HZZ
              go_wp2_with fail
              refine HL.out.mono ?_
              rintro e w5 ⟨rfl, hm5, ho5⟩
              have ho5' : Only (fun b => b = g ∨ InRows m blk b) W2 w5 := ho5.mono (fun k _ ⟨i, hi, e⟩ => .inr (e ▸ HFIN.out i hi))
              have HM5 := Lib.hid hm5
              have HON5 := Lib.hid (HON2.out.trans ho5')
              have HIM5 := Lib.hid (HIM2.out.only ho5' HAP.out)
              have hlen : ps.length + 1 ≤ 1048576 := by have := HD.out; omega
              clear hm5 ho5 ho5' HL
              go_wp2_with (at_builtin; refine wpList_append_int rfl (.tmp 57) (.tmp 59) rfl w.heap.size (.slice B8 d c8) ps c rfl (HIM5.out.ext ((Ext.refl _).alloc _)) w5.heap.size 1 rfl (by rw [cell_of_row _ _ _ _ _ _ (heap_alloc_new w5 _)]; rfl) hlen (by have := HON5.out.size; simp; omega) ?_; intro v' w9 hown' hg' hat')
              have hw5 := HON5.out.size
              have hgap : ∀ k, k < w.heap.size → some k ≠ Value.ownBlock (.slice B8 d c8) := fun k hk e => by
                have := (HIM5.out.block k e.symm).1
                omega
              have hbl2 : ∀ i, i < m → bl2 i < w.heap.size := fun i hi => by
                obtain ⟨j, hj, e⟩ := HFIN.out i hi
                rw [e]
                exact HBL.out j hj
              have hm9 := (HM5.out.ext ((Ext.refl w5).alloc (.cells #[.int .i64 (c : Int)] 3))).keep hg' (hgap g hgl) (fun i hi => hgap _ (hbl2 i hi))
              have hon9 := (HON5.out.trans (Only.of_ext ((Ext.refl w5).alloc (.cells #[.int .i64 (c : Int)] 3)))).more hg' (fun k e => (HIM5.out.block k e).1)
              have HM9 := Lib.hid hm9
              have HON9 := Lib.hid hon9
              have HOWN := Lib.hid hown'
              clear hown' hg' hat' hm9 hon9 hw5 hgap hbl2
              go_wp2
              go_roundg gh
              case measure => omega
              case rel => exact ⟨c + 1, leadF G2 d c, ps ++ [c], bl2, by omega, by go_num, HOWN.out, HM9.out, HS.out.red, HFIN.out, HON9.out⟩
end Go.Proofs.Ytlncelfacfflhaa

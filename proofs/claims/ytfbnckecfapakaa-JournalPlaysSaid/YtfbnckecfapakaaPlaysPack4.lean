/-
  Part 4 of the texts that the seat's proofs stand on; each part of it begins with its own sentence and conditions. Conditions: those that each theorem names.
-/
import Derived.Test.YtfbnckecfapakaaPlaysPack3
import Derived.Deep.DeepCutAuto
import Derived.Deep.CutBlock
import Derived.Lib.Hide
import Derived.Lib.SliceRun

/-
  The law JournalPlays, walked, under what layer 12's functions are to do. Conditions: none.
-/
namespace Go.Proofs.Ytfbnckecfapakaa
open Go.RowKit
open Pol (co Sm)

theorem RL.lok {Y : Nat → Prop} {σ : Nat} {w : World} {R : List (List Nat)} {k : Nat} (h : RL Y σ w R k) : Lok R k := by
  obtain ⟨_, _, _, _, _, _, _, _, _, _, _, _, _, _, _, _, h8⟩ := h
  exact h8
set_option maxHeartbeats 6400000 in
set_option maxRecDepth 100000 in
theorem plays12_walk {I : LogP} (C : JournalSaid I) {F L : List Nat} {l : List (Int × Int × Nat × List Nat)} {A B E : Option Addr} {nf ca nl cb n ce : Nat} (w : World) (hf : F.length = nf) (hl : L.length = nl) (hn : l.length = n) (rf : Rd w A F) (rl : Rd w B L) (ro : AOp w E l) (hca : nf ≤ ca) (hcb : nl ≤ cb) (hce : n ≤ ce) :
    Calls Try.prog 3 #[.agg #[.slice A nf ca, .slice B nl cb], .slice E n ce] w (Holds w) := by
  have HAW := Lib.hid (fun W => awake12 C W)
  have HC := Lib.hid C
  clear C
  have HFW := Lib.hid (fun W (hx : Ext w W) => few12 (n := n) (c := ce) W (ro.ext hx) hn)
  have HX0 := Lib.hid ((Ext.refl w).alloc (.cells #[.slice A nf ca, .slice B nl cb] 24))
  have HT0 := Lib.hid (twoR_of (heap_alloc_new w (.cells #[.slice A nf ca, .slice B nl cb] 24)))
  by_cases hbig : nf ≤ 100 ∧ nl ≤ 100
  · obtain ⟨q1, q2⟩ := hbig
    have HF := Lib.hid hf
    have HL := Lib.hid hl
    have HN := Lib.hid hn
    have HRF := Lib.hid rf
    have HRL := Lib.hid rl
    have HRO := Lib.hid ro
    have HLE := Lib.hid (And.intro q1 q2)
    have HCP := Lib.hid (And.intro hca (And.intro hcb hce))
    have d1 : decide (100 < (nf : Int)) = false := decide_eq_false (by omega)
    have d2 : decide (100 < (nl : Int)) = false := decide_eq_false (by omega)
    clear hf hl hn rf rl ro hca hcb hce q1 q2
    go_enter Try.func3, Try.ntmps3
    go_wp2_with fail
    obtain ⟨g0, hg0⟩ : ∃ g, w.heap.size = g := ⟨_, rfl⟩
    rw [hg0] at HT0 ⊢
    have HG0 := Lib.hid hg0
    clear hg0
    generalize w.alloc (.cells #[.slice A nf ca, .slice B nl cb] 24) = w0 at HX0 HT0 ⊢
    refine (HAW.out w0).mono ?_
    rintro e v1 ⟨rfl, hv1⟩
    have HX1 := Lib.hid (HX0.out.trans hv1)
    have HT1 := Lib.hid (HT0.out.ext hv1)
    obtain ⟨k0, k1⟩ := HT1.out
    clear hv1
    go_wp2_with fail
    refine (HFW.out _ HX1.out).mono ?_
    rintro e v2 ⟨v, rfl, rfl, hv1, hv2⟩
    cases v with
    | false =>
      clear hv1 hv2
      go_wp2_with fail
      refine (HAW.out v1).mono ?_
      rintro e v3 ⟨rfl, hv3⟩
      have HX3 := Lib.hid (HX1.out.trans hv3)
      clear hv3 k0 k1
      go_wp2
      go_ret
      exact ⟨rfl, HX3.out⟩
    | true =>
      have HFEW := Lib.hid (hv1 rfl)
      clear hv1 hv2
      have HN40 := Lib.hid (show n ≤ 40 from by rw [← HN.out]; exact HFEW.out.2)
      go_upto_region 3 with (fail)
      clear k0 k1 d1 d2
      refine wp_region_plan (TwoR g0 (.slice A nf ca) (.slice B nl cb)) [0, 1, 2, 3, 4] (.yes 0 (.yes 2 (.one 1 (.one 3 (.one 4 (.one 5 .done)))))) (by kernel_rfl) (fun c a a' w e h => ⟨e ▸ h.1, h.2⟩) (by kernel_rfl) (HT1.out.ext ((Ext.refl v1).drew)) ?_
      refine plan_yes rfl (fun K hK => ?_); go_simp; refine ⟨.agg #[.slice A nf ca, .slice B nl cb], fun W hW => ?_, hK _ ?_⟩
      · obtain ⟨k0, k1⟩ := hW
        go_simp
      clear hK K
      refine plan_yes rfl (fun K hK => ?_); go_simp; refine ⟨.agg #[.slice A nf ca, .slice B nl cb], fun W hW => ?_, hK _ ?_⟩
      · obtain ⟨k0, k1⟩ := hW
        go_simp
      clear hK K
      have HXs := Lib.hid (show Ext v1 v1.drew from (Ext.refl v1).drew)
      generalize v1.drew = ws at HXs ⊢
      refine plan_one rfl (fun K hK => ?_)
      go_wp2_with fail
      refine (lg_open HC.out _ HF.out HL.out (HRF.out.ext (HX1.out.trans HXs.out)) (HRL.out.ext (HX1.out.trans HXs.out)) (by have := HLE.out; omega)).mono ?_
      rintro e w2 ⟨hx2, lb, X, rfl, hg2, _⟩
      have HX2 := Lib.hid (HXs.out.trans hx2)
      have HX2o := Lib.hid hx2
      have HG2 := Lib.hid hg2
      clear hx2 hg2
      go_wp2
      refine ⟨fun _ => HT1.out.ext HX2.out, ?_⟩
      refine plan_one rfl (fun K hK => ?_)
      go_wp2_with fail
      refine (ref12_open _ HF.out HL.out (HRF.out.ext (HX1.out.trans HX2.out)) (HRL.out.ext (HX1.out.trans HX2.out)) (by have := HLE.out; omega)).mono ?_
      rintro e w3 ⟨hx3, σ, rfl, hr3⟩
      have HDS := Lib.hid (show Sm (F ++ L) ∧ (F ++ L).length ≤ 200 from ⟨sm12_app HRF.out.1 HRL.out.1, by rw [List.length_append, HF.out, HL.out]; have := HLE.out; omega⟩)
      have hps := PS.open (I := I) (m := 200) (HXs.out.size) HX2o.out.size (Lg.ext HC.out HG2.out hx3) (fun b h => (HG2.out.2 b h).2) hx3 hr3 (Nat.le_trans (fl_al_le _ HDS.out.1) HDS.out.2)
      have HX3 := Lib.hid (HX2.out.trans hx3)
      obtain ⟨R, hR⟩ : ∃ R, (al (F ++ L)).1 = R := ⟨_, rfl⟩
      rw [hR] at hps
      obtain ⟨Y, hY⟩ : ∃ Y, Nw (fun _ => False) w2 w3 = Y := ⟨_, rfl⟩
      rw [hY] at hps
      obtain ⟨k, hk⟩ : ∃ k, R.length = k := ⟨_, rfl⟩
      rw [hk] at hps
      have HPS := Lib.hid hps
      clear hx3 hr3 hR hY hk hps HG2
      go_wp2
      refine ⟨fun _ => HT1.out.ext HX3.out, ?_⟩
      refine plan_one rfl (fun K hK => ?_)
      go_wp2
      refine ⟨by first | exact HT1.out.ext HX3.out | exact fun _ => HT1.out.ext HX3.out, ?_⟩
      refine plan_one rfl (fun K hK => ?_)
      go_wp2
      refine ⟨fun h => absurd h (by decide), ?_⟩
      unfold wpPlan
      go_upto_region 4 with (fail)
      obtain ⟨A1, m1, c1, B1, k1, d1, V1, r1, e1, hrow, _, hsf, hsl, hrn, _, hrv, hlk⟩ := HPS.out.rl
      have HSF := Lib.hid hsf
      have HSL := Lib.hid hsl
      have HRN := Lib.hid hrn
      have HRV := Lib.hid hrv
      have HTR := Lib.hid (show Tri σ (.slice A1 m1 c1) (.slice B1 k1 d1) (.slice V1 r1 e1) w3 from ⟨(log37_at hrow).1, (log37_at hrow).2.1, (log37_at hrow).2.2.1⟩)
      have HML := Lib.hid (show m1 ≤ 65536 ∧ k1 ≤ 65536 ∧ r1 ≤ 65536 from by
        have h1 := parts12_le R k
        have h2 := HPS.out.len
        have h3 := fl_len12 R
        have h4 := hsf.len
        have h5 := hsl.len
        omega)
      clear hrow hsf hsl hrn hrv hlk
      refine wp_region_plan (Tri σ (.slice A1 m1 c1) (.slice B1 k1 d1) (.slice V1 r1 e1)) [0, 1, 2, 3, 4, 5, 6, 7, 8, 9, 10, 11, 12, 13, 14, 15, 16, 17, 18, 19, 20] (.yes 0 (.yes 1 (.yes 2 (.yes 3 (.yes 5 (.yes 6 (.yes 7 (.yes 8 (.one 4 (.one 9 (.one 10 (.one 11 (.one 12 (.yes 13 (.yes 15 (.yes 16 (.yes 17 (.yes 18 (.one 14 (.one 19 (.one 20 (.one 21 .done)))))))))))))))))))))) (by kernel_rfl) (fun c a a' w e h => ⟨e ▸ h.1, h.2⟩) (by kernel_rfl) (HTR.out.ext ((Ext.refl w3).drew)) ?_
      have HXa := Lib.hid (show Ext w3 w3.drew from (Ext.refl w3).drew)
      have HPa := Lib.hid (PS.ext HC.out HPS.out HXa.out)
      have HTa := Lib.hid (HTR.out.ext HXa.out)
      generalize w3.drew = y0 at HXa HPa HTa ⊢
      refine plan_yes rfl (fun K hK => ?_); go_simp; refine ⟨_, fun _ _ => rfl, hK _ ?_⟩; clear hK K
      refine plan_yes rfl (fun K hK => ?_); go_simp; refine ⟨_, fun _ _ => rfl, hK _ ?_⟩; clear hK K
      refine plan_yes rfl (fun K hK => ?_); go_simp; refine ⟨_, fun _ _ => rfl, hK _ ?_⟩; clear hK K
      refine plan_yes rfl (fun K hK => ?_); go_simp; refine ⟨_, fun _ _ => rfl, hK _ ?_⟩; clear hK K
      refine plan_yes rfl (fun K hK => ?_); go_simp; refine ⟨_, fun _ _ => rfl, hK _ ?_⟩; clear hK K
      refine plan_yes rfl (fun K hK => ?_); go_simp; refine ⟨_, fun _ _ => rfl, hK _ ?_⟩; clear hK K
      refine plan_yes rfl (fun K hK => ?_); go_simp; refine ⟨_, fun _ _ => rfl, hK _ ?_⟩; clear hK K
      refine plan_yes rfl (fun K hK => ?_); go_simp; refine ⟨.agg #[.slice A1 m1 c1, .slice B1 k1 d1], fun W hW => ?_, hK _ ?_⟩
      · obtain ⟨k0, k1, k2⟩ := hW
        go_simp
      clear hK K
      refine plan_one rfl (fun K hK => ?_)
      go_wp2_with fail
      refine (lg_disk HC.out HPa.out.lg (Nat.le_trans HPa.out.len (by omega))).mono ?_
      rintro e y1 ⟨hx, A2, m2, c2, B2, k2, d2, rfl, hs1, hs2⟩
      have en : m1 = m2 := HSF.out.len.symm.trans hs1.len
      have em : k1 = k2 := HSL.out.len.symm.trans hs2.len
      subst en; subst em
      have HXb := Lib.hid (HXa.out.trans hx)
      have HSD := Lib.hid (And.intro hs1.rd hs2.rd)
      clear hx hs1 hs2
      go_wp2
      refine ⟨fun _ => HTR.out.ext HXb.out, ?_⟩
      refine plan_one rfl (fun K hK => ?_)
      go_wp2_with fail
      refine (same12 _ HSF.out.len HSL.out.len HSD.out.1 HSD.out.2 (HSF.out.rd.ext HXb.out) (HSL.out.rd.ext HXb.out) HML.out.1 HML.out.2.1).mono ?_
      rintro e y2 ⟨rfl, hx⟩
      have HXc := Lib.hid (HXb.out.trans hx)
      clear hx
      go_wp2
      refine ⟨fun _ => HTR.out.ext HXc.out, ?_⟩
      refine plan_one rfl (fun K hK => ?_)
      go_wp2
      refine ⟨by first | exact HTR.out.ext HXc.out | exact fun _ => HTR.out.ext HXc.out, ?_⟩
      refine plan_one rfl (fun K hK => ?_)
      go_wp2
      refine ⟨by first | exact HTR.out.ext HXc.out | exact fun _ => HTR.out.ext HXc.out, ?_⟩
      refine plan_one rfl (fun K hK => ?_)
      go_wp2
      refine ⟨by first | exact HTR.out.ext HXc.out | exact fun _ => HTR.out.ext HXc.out, ?_⟩
      refine plan_yes rfl (fun K hK => ?_); go_simp; refine ⟨_, fun _ _ => rfl, hK _ ?_⟩; clear hK K
      refine plan_yes rfl (fun K hK => ?_); go_simp; refine ⟨_, fun _ _ => rfl, hK _ ?_⟩; clear hK K
      refine plan_yes rfl (fun K hK => ?_); go_simp; refine ⟨_, fun _ _ => rfl, hK _ ?_⟩; clear hK K
      refine plan_yes rfl (fun K hK => ?_); go_simp; refine ⟨_, fun _ _ => rfl, hK _ ?_⟩; clear hK K
      refine plan_yes rfl (fun K hK => ?_); go_simp; refine ⟨.slice V1 r1 e1, fun W hW => ?_, hK _ ?_⟩
      · obtain ⟨k0, k1, k2⟩ := hW
        go_simp
      clear hK K
      refine plan_one rfl (fun K hK => ?_)
      have HPc := Lib.hid (PS.ext HC.out HPS.out HXc.out)
      go_wp2_with fail
      refine (lg_records HC.out HPc.out.lg (Nat.le_trans HPc.out.len (by omega))).mono ?_
      rintro e y3 ⟨hx, V3, r3, e3, rfl, hn3, _, hr3, _⟩
      have en : r1 = r3 := HRN.out.symm.trans hn3
      subst en
      have HXd := Lib.hid (HXc.out.trans hx)
      have HR3 := Lib.hid hr3
      clear hx hn3 hr3
      go_wp2
      refine ⟨fun _ => HTR.out.ext HXd.out, ?_⟩
      refine plan_one rfl (fun K hK => ?_)
      go_wp2_with fail
      refine (lists_n _ HRN.out HR3.out (HRV.out.reads.ext HXd.out) HML.out.2.2 (fun j hj => by have := ok_len HPS.out.rl.lok j (by rw [HRN.out]; exact hj); omega)).mono ?_
      rintro e y4 ⟨rfl, q, rfl⟩
      have HXe := Lib.hid (HXd.out.drewN q)
      go_wp2
      refine ⟨by first | exact HTR.out.ext HXe.out | exact fun _ => HTR.out.ext HXe.out, ?_⟩
      refine plan_one rfl (fun K hK => ?_)
      go_wp2
      refine ⟨by first | exact HTR.out.ext HXe.out | exact fun _ => HTR.out.ext HXe.out, ?_⟩
      refine plan_one rfl (fun K hK => ?_)
      go_wp2
      refine ⟨fun h => absurd h (by decide), ?_⟩
      unfold wpPlan
      have HPZ := Lib.hid (PS.ext HC.out HPS.out HXe.out)
      have HXZ := Lib.hid HXe.out
      have HVZ := Lib.hid (HX3.out.trans HXZ.out)
      clear HTR HSF HSL HRN HRV HML HTa HPa HXa HXb HSD HXc HPc HXd HR3
      go_wp2
      generalize y3.drewN q = wl at HPZ HVZ ⊢
      go_loopg [5, 6, 58] n (fun g s5 s6 s58 wx => ∃ (i : Nat) (X Y : Nat → Prop) (lb σ : Nat) (R : List (List Nat)) (k : Nat), i + g = n ∧ s58 = .int .i64 (i : Int) ∧ s5 = .pointer (some ⟨lb, 0, none⟩) ∧ s6 = .pointer (some ⟨σ, 0, none⟩) ∧ PS I v1.heap.size X Y lb σ R k (200 + 66 * i) wx ∧ Ext v1 wx)
      case atStart => exact ⟨0, X, Y, lb, σ, R, k, by omega, rfl, rfl, rfl, HPZ.out, HVZ.out⟩
      case round =>
        clear HPZ HVZ HPS
        obtain ⟨i, X, Y, lb, σ, R, k, hig, rfl, rfl, rfl, hps, hx⟩ := hrel
        have HPS := Lib.hid hps
        have HX := Lib.hid hx
        clear hps hx
        cases gk with
        | zero =>
          obtain rfl : i = n := by omega
          clear hig
          go_wp2
          go_ret
          exact ⟨rfl, HX1.out.trans HX.out⟩
        | succ gk =>
          have hi : i < n := by omega
          have hiI : (i : Int) < (n : Int) := by omega
          have hn40 : n ≤ 40 := HN40.out
          obtain ⟨b, o, B, cb, rfl, h0, h1, h2, h3, hbc, hbr, htt⟩ := HRO.out.1 i (by rw [HN.out]; exact hi)
          obtain ⟨K0, hK0⟩ : ∃ K, okd l i = K := ⟨_, rfl⟩
          obtain ⟨P, hP⟩ : ∃ K, okp l i = K := ⟨_, rfl⟩
          obtain ⟨T, hT⟩ : ∃ K, ott l i = K := ⟨_, rfl⟩
          obtain ⟨m, hm⟩ : ∃ m, (obs l i).length = m := ⟨_, rfl⟩
          have hm60 : m ≤ 60 := by rw [← hm]; exact HFEW.out.1 i (by rw [HN.out]; exact hi)
          rw [hK0] at h0
          rw [hP] at h1
          rw [hT] at h2 htt
          rw [hm] at h3 hbc
          have HM := Lib.hid hm
          have HBR := Lib.hid hbr
          have HBC := Lib.hid hbc
          have HTB := Lib.hid htt
          have hxw := HX1.out.trans HX.out
          have h0 := hxw.at h0
          have h1 := hxw.at h1
          have h2 := hxw.at h2
          have h3 := hxw.at h3
          have HBX := Lib.hid (show ∀ b' o', B = some ⟨b', o', none⟩ → 0 < (obs l i).length → b' ≠ σ from fun b' o' e hh => by
            obtain ⟨b2, o2, e2, hc⟩ := hbr.2 0 hh
            rw [e] at e2
            injection e2 with e2
            injection e2 with e3 e4
            have g1 : b2 < w.heap.size := block_lt_of_cell hc
            have g2 := (HPS.out.yb σ HPS.out.rl.home).1
            have g3 := HX1.out.size
            have g4 : b' = b2 := e3
            omega)
          have HIG := Lib.hid hig
          clear hK0 hP hT hm hbr hbc htt hxw hig
          go_upto_block 2 with (fail)
          clear h0 h1 h2 h3
          have hbo := heap_alloc_new wr (.cells #[.int .i64 K0, .int .i64 P, .int .u8 (T : Int), .slice B m cb] 41)
          have hxo := (Ext.refl wr).alloc (.cells #[.int .i64 K0, .int .i64 P, .int .u8 (T : Int), .slice B m cb] 41)
          have HXO := Lib.hid (show ∀ h, X h → h < wr.heap.size from fun h hh => (HPS.out.lg.2 h hh).2)
          have HGS := Lib.hid (show ¬ wr.heap.size = σ from fun e => by have := (HPS.out.yb σ HPS.out.rl.home).2; omega)
          have HPU := Lib.hid (PS.ext HC.out HPS.out hxo)
          have HXU := Lib.hid (HX.out.trans hxo)
          have HOQ := Lib.hid (show (wr.alloc (.cells #[.int .i64 K0, .int .i64 P, .int .u8 (T : Int), .slice B m cb] 41)).cell? ⟨wr.heap.size, 1, none⟩ = some (.int .i64 P) ∧ (wr.alloc (.cells #[.int .i64 K0, .int .i64 P, .int .u8 (T : Int), .slice B m cb] 41)).cell? ⟨wr.heap.size, 2, none⟩ = some (.int .u8 (T : Int)) ∧ True from ⟨by rw [cell_of_row _ _ 1 _ _ _ hbo]; rfl, by rw [cell_of_row _ _ 2 _ _ _ hbo]; rfl, trivial⟩)
          have HOB := Lib.hid (show OpB wr.heap.size (.slice B m cb) (wr.alloc (.cells #[.int .i64 K0, .int .i64 P, .int .u8 (T : Int), .slice B m cb] 41)) from by unfold OpB; rw [cell_of_row _ _ 3 _ _ _ hbo]; rfl)
          clear hbo hxo HPS HX
          obtain ⟨gO, hgO⟩ : ∃ g, wr.heap.size = g := ⟨_, rfl⟩
          rw [hgO] at HXO HGS HOQ HOB ⊢
          clear hgO
          generalize wr.alloc (.cells #[.int .i64 K0, .int .i64 P, .int .u8 (T : Int), .slice B m cb] 41) = u0 at HPU HXU HOQ HOB ⊢
          go_cut [5, 6, 9] (fun s5 s6 s9 wx => s9 = .bool true ∧ ∃ (X Y : Nat → Prop) (lb σ : Nat) (R : List (List Nat)) (k : Nat), s5 = .pointer (some ⟨lb, 0, none⟩) ∧ s6 = .pointer (some ⟨σ, 0, none⟩) ∧ PS I v1.heap.size X Y lb σ R k (200 + 66 * (i + 1)) wx ∧ Ext v1 wx)
          case first =>
            by_cases e1 : K0 = 1
            · subst e1
              go_upto_region 13 with (fail)
              refine wp_region_plan (OpB gO (.slice B m cb)) [0, 1, 2, 3, 4, 5, 6, 7, 8] (.yes 0 (.yes 1 (.yes 2 (.yes 4 (.yes 5 (.yes 6 (.one 3 (.one 7 (.one 8 (.one 9 .done)))))))))) (by kernel_rfl) (fun c a a' w e h => ⟨e ▸ h.1, h.2⟩) (by kernel_rfl) (HOB.out.ext ((Ext.refl u0).drew)) ?_
              refine plan_yes rfl (fun K hK => ?_); go_simp; refine ⟨_, fun _ _ => rfl, hK _ ?_⟩; clear hK K
              refine plan_yes rfl (fun K hK => ?_); go_simp; refine ⟨_, fun _ _ => rfl, hK _ ?_⟩; clear hK K
              refine plan_yes rfl (fun K hK => ?_); go_simp; refine ⟨.slice B m cb, fun W hW => ?_, hK _ ?_⟩
              · have k3 : W.cell? ⟨gO, 3, none⟩ = some (.slice B m cb) := hW
                go_simp
              clear hK K
              refine plan_yes rfl (fun K hK => ?_); go_simp; refine ⟨_, fun _ _ => rfl, hK _ ?_⟩; clear hK K
              refine plan_yes rfl (fun K hK => ?_); go_simp; refine ⟨_, fun _ _ => rfl, hK _ ?_⟩; clear hK K
              refine plan_yes rfl (fun K hK => ?_); go_simp; refine ⟨.slice B m cb, fun W hW => ?_, hK _ ?_⟩
              · have k3 : W.cell? ⟨gO, 3, none⟩ = some (.slice B m cb) := hW
                go_simp
              clear hK K
              have HXa := Lib.hid (show Ext u0 u0.drew from (Ext.refl u0).drew)
              have HPa := Lib.hid (PS.ext HC.out HPU.out HXa.out)
              have HOa := Lib.hid (HOB.out.ext HXa.out)
              have HVa := Lib.hid (HXU.out.trans HXa.out)
              generalize u0.drew = y0 at HXa HPa HOa HVa ⊢
              refine plan_one rfl (fun K hK => ?_)
              go_wp2_with fail
              refine (lg_append HC.out HPa.out.lg HM.out (HBR.out.ext (HX1.out.trans HVa.out)) HBC.out (Nat.le_trans HPa.out.len (by omega)) HPa.out.b0).mono ?_
              rintro e z1 ⟨ho1, (⟨hfo, rfl, hg1⟩ | ⟨hfo, rfl, hg1⟩)⟩
              · skip
                have HXz := Lib.hid (ho1.ext HVa.out (fun b hb => (HPa.out.lg.2 b hb).1))
                have HMD := Lib.hid (HPa.out.mid ho1)
                have HOz := Lib.hid (show OpB gO (.slice B m cb) z1 from ho1.cell HOa.out (fun h => absurd (HXO.out gO h) (Nat.lt_irrefl _)))
                have HO1 := Lib.hid ho1
                have HG1 := Lib.hid hg1
                have HFF := Lib.hid hfo
                clear ho1 hg1 hfo
                go_wp2
                refine ⟨fun _ => HOz.out, ?_⟩
                refine plan_one rfl (fun K hK => ?_)
                go_wp2_with fail
                refine (ref12_append z1 HMD.out.1 HMD.out.2 (Nat.le_trans HPa.out.len (by omega)) HM.out (HBR.out.ext (HX1.out.trans HXz.out)) HBC.out (by omega) HBX.out).mono ?_
                rintro e z2 ⟨ho2, (⟨hfo2, rfl, hr2⟩ | ⟨hno2, rfl, hr2⟩)⟩
                · skip
                  have HPn := Lib.hid (PS.next (m' := 200 + 66 * (i + 1)) HC.out HPa.out HO1.out HG1.out ho2 hr2 (by have := HPa.out.len; have := HM.out; rw [fl_app, List.length_append, show fl [obs l i] = fr (obs l i) from by unfold fl; simp, fr_len]; omega))
                  have HOn := Lib.hid (show OpB gO (.slice B m cb) z2 from ho2.cell HOz.out (fun e => HGS.out e))
                  have HXn := Lib.hid (ho2.ext HXz.out (fun b hb => by rw [hb]; exact (HPa.out.yb σ HPa.out.rl.home).1))
                  clear ho2 hr2 hfo2
                  go_wp2
                  refine ⟨fun _ => HOn.out, ?_⟩
                  refine plan_one rfl (fun K hK => ?_)
                  go_wp2
                  refine ⟨by first | exact HOn.out | exact fun _ => HOn.out, ?_⟩
                  refine plan_one rfl (fun K hK => ?_)
                  go_wp2
                  refine ⟨fun h => absurd h (by decide), ?_⟩
                  unfold wpPlan
                  go_wp2_with fail
                  go_meet
                  exact ⟨rfl, _, _, lb, σ, _, _, rfl, rfl, HPn.out, HXn.out⟩
                · exact absurd HFF.out hno2
              · skip
                have HXz := Lib.hid (ho1.ext HVa.out (fun b hb => (HPa.out.lg.2 b hb).1))
                have HMD := Lib.hid (HPa.out.mid ho1)
                have HOz := Lib.hid (show OpB gO (.slice B m cb) z1 from ho1.cell HOa.out (fun h => absurd (HXO.out gO h) (Nat.lt_irrefl _)))
                have HO1 := Lib.hid ho1
                have HG1 := Lib.hid hg1
                have HFF := Lib.hid hfo
                clear ho1 hg1 hfo
                go_wp2
                refine ⟨fun _ => HOz.out, ?_⟩
                refine plan_one rfl (fun K hK => ?_)
                go_wp2_with fail
                refine (ref12_append z1 HMD.out.1 HMD.out.2 (Nat.le_trans HPa.out.len (by omega)) HM.out (HBR.out.ext (HX1.out.trans HXz.out)) HBC.out (by omega) HBX.out).mono ?_
                rintro e z2 ⟨ho2, (⟨hfo2, rfl, hr2⟩ | ⟨hno2, rfl, hr2⟩)⟩
                · exact absurd hfo2 HFF.out
                · skip
                  have HPn := Lib.hid (PS.next (m' := 200 + 66 * (i + 1)) HC.out HPa.out HO1.out HG1.out ho2 hr2 (by have := HPa.out.len; omega))
                  have HOn := Lib.hid (show OpB gO (.slice B m cb) z2 from ho2.cell HOz.out (fun e => HGS.out e))
                  have HXn := Lib.hid (ho2.ext HXz.out (fun b hb => by rw [hb]; exact (HPa.out.yb σ HPa.out.rl.home).1))
                  clear ho2 hr2 hno2
                  go_wp2
                  refine ⟨fun _ => HOn.out, ?_⟩
                  refine plan_one rfl (fun K hK => ?_)
                  go_wp2
                  refine ⟨by first | exact HOn.out | exact fun _ => HOn.out, ?_⟩
                  refine plan_one rfl (fun K hK => ?_)
                  go_wp2
                  refine ⟨fun h => absurd h (by decide), ?_⟩
                  unfold wpPlan
                  go_wp2_with fail
                  go_meet
                  exact ⟨rfl, _, _, lb, σ, _, _, rfl, rfl, HPn.out, HXn.out⟩
            · have dk1 : (K0 == 1) = false := by simp; exact e1
              by_cases e2 : K0 = 2
              · subst e2
                go_wp2_with fail
                refine (lg_sync HC.out HPU.out.lg (Nat.le_trans HPU.out.len (by omega)) HPU.out.b0).mono ?_
                rintro e z1 ⟨rfl, ho1, hg1⟩
                have HXz := Lib.hid (ho1.ext HXU.out (fun b hb => (HPU.out.lg.2 b hb).1))
                have HMD := Lib.hid (HPU.out.mid ho1)
                have HO1 := Lib.hid ho1
                have HG1 := Lib.hid hg1
                clear ho1 hg1
                go_wp2_with fail
                refine (ref12_sync z1 HMD.out.1 HMD.out.2 (Nat.le_trans HPU.out.len (by omega))).mono ?_
                rintro e z2 ⟨rfl, ho2, hr2⟩
                have HPn := Lib.hid (PS.next (m' := 200 + 66 * (i + 1)) HC.out HPU.out HO1.out HG1.out ho2 hr2 (by have := HPU.out.len; omega))
                have HXn := Lib.hid (ho2.ext HXz.out (fun b hb => by rw [hb]; exact (HPU.out.yb σ HPU.out.rl.home).1))
                clear ho2 hr2
                go_wp2_with fail
                go_meet
                exact ⟨rfl, _, _, lb, σ, _, _, rfl, rfl, HPn.out, HXn.out⟩
              · have dk2 : (K0 == 2) = false := by simp; exact e2
                by_cases e3 : K0 = 3
                · subst e3
                  go_upto_region 18 with (fail)
                  refine wp_region_plan (OpB gO (.slice B m cb)) [0, 1, 2, 3, 4, 5, 6, 7, 8] (.yes 0 (.yes 1 (.yes 2 (.yes 4 (.yes 5 (.yes 6 (.one 3 (.one 7 (.one 8 (.one 9 .done)))))))))) (by kernel_rfl) (fun c a a' w e h => ⟨e ▸ h.1, h.2⟩) (by kernel_rfl) (HOB.out.ext ((Ext.refl u0).drew)) ?_
                  refine plan_yes rfl (fun K hK => ?_); go_simp; refine ⟨_, fun _ _ => rfl, hK _ ?_⟩; clear hK K
                  refine plan_yes rfl (fun K hK => ?_); go_simp; refine ⟨_, fun _ _ => rfl, hK _ ?_⟩; clear hK K
                  refine plan_yes rfl (fun K hK => ?_); go_simp; refine ⟨.slice B m cb, fun W hW => ?_, hK _ ?_⟩
                  · have k3 : W.cell? ⟨gO, 3, none⟩ = some (.slice B m cb) := hW
                    go_simp
                  clear hK K
                  refine plan_yes rfl (fun K hK => ?_); go_simp; refine ⟨_, fun _ _ => rfl, hK _ ?_⟩; clear hK K
                  refine plan_yes rfl (fun K hK => ?_); go_simp; refine ⟨_, fun _ _ => rfl, hK _ ?_⟩; clear hK K
                  refine plan_yes rfl (fun K hK => ?_); go_simp; refine ⟨.slice B m cb, fun W hW => ?_, hK _ ?_⟩
                  · have k3 : W.cell? ⟨gO, 3, none⟩ = some (.slice B m cb) := hW
                    go_simp
                  clear hK K
                  have HXa := Lib.hid (show Ext u0 u0.drew from (Ext.refl u0).drew)
                  have HPa := Lib.hid (PS.ext HC.out HPU.out HXa.out)
                  have HOa := Lib.hid (HOB.out.ext HXa.out)
                  have HVa := Lib.hid (HXU.out.trans HXa.out)
                  generalize u0.drew = y0 at HXa HPa HOa HVa ⊢
                  refine plan_one rfl (fun K hK => ?_)
                  go_wp2_with fail
                  refine (lg_compact HC.out HPa.out.lg HM.out (HBR.out.ext (HX1.out.trans HVa.out)) HBC.out HPa.out.b0).mono ?_
                  rintro e z1 ⟨ho1, (⟨hfo, rfl, hg1⟩ | ⟨hfo, rfl, hg1⟩)⟩
                  · skip
                    have HXz := Lib.hid (ho1.ext HVa.out (fun b hb => (HPa.out.lg.2 b hb).1))
                    have HMD := Lib.hid (HPa.out.mid ho1)
                    have HOz := Lib.hid (show OpB gO (.slice B m cb) z1 from ho1.cell HOa.out (fun h => absurd (HXO.out gO h) (Nat.lt_irrefl _)))
                    have HO1 := Lib.hid ho1
                    have HG1 := Lib.hid hg1
                    have HFF := Lib.hid hfo
                    clear ho1 hg1 hfo
                    go_wp2
                    refine ⟨fun _ => HOz.out, ?_⟩
                    refine plan_one rfl (fun K hK => ?_)
                    go_wp2_with fail
                    refine (ref12_compact z1 HMD.out.1 HMD.out.2 HM.out (HBR.out.ext (HX1.out.trans HXz.out)) (by omega) HBX.out).mono ?_
                    rintro e z2 ⟨ho2, (⟨hfo2, rfl, hr2⟩ | ⟨hno2, rfl, hr2⟩)⟩
                    · skip
                      have HPn := Lib.hid (PS.next (m' := 200 + 66 * (i + 1)) HC.out HPa.out HO1.out HG1.out ho2 hr2 (by have := HM.out; rw [show fl [obs l i] = fr (obs l i) from by unfold fl; simp, fr_len]; omega))
                      have HOn := Lib.hid (show OpB gO (.slice B m cb) z2 from ho2.cell HOz.out (fun e => HGS.out e))
                      have HXn := Lib.hid (ho2.ext HXz.out (fun b hb => by rw [hb]; exact (HPa.out.yb σ HPa.out.rl.home).1))
                      clear ho2 hr2 hfo2
                      go_wp2
                      refine ⟨fun _ => HOn.out, ?_⟩
                      refine plan_one rfl (fun K hK => ?_)
                      go_wp2
                      refine ⟨by first | exact HOn.out | exact fun _ => HOn.out, ?_⟩
                      refine plan_one rfl (fun K hK => ?_)
                      go_wp2
                      refine ⟨fun h => absurd h (by decide), ?_⟩
                      unfold wpPlan
                      go_wp2_with fail
                      go_meet
                      exact ⟨rfl, _, _, lb, σ, _, _, rfl, rfl, HPn.out, HXn.out⟩
                    · exact absurd HFF.out hno2
                  · skip
                    have HXz := Lib.hid (ho1.ext HVa.out (fun b hb => (HPa.out.lg.2 b hb).1))
                    have HMD := Lib.hid (HPa.out.mid ho1)
                    have HOz := Lib.hid (show OpB gO (.slice B m cb) z1 from ho1.cell HOa.out (fun h => absurd (HXO.out gO h) (Nat.lt_irrefl _)))
                    have HO1 := Lib.hid ho1
                    have HG1 := Lib.hid hg1
                    have HFF := Lib.hid hfo
                    clear ho1 hg1 hfo
                    go_wp2
                    refine ⟨fun _ => HOz.out, ?_⟩
                    refine plan_one rfl (fun K hK => ?_)
                    go_wp2_with fail
                    refine (ref12_compact z1 HMD.out.1 HMD.out.2 HM.out (HBR.out.ext (HX1.out.trans HXz.out)) (by omega) HBX.out).mono ?_
                    rintro e z2 ⟨ho2, (⟨hfo2, rfl, hr2⟩ | ⟨hno2, rfl, hr2⟩)⟩
                    · exact absurd hfo2 HFF.out
                    · skip
                      have HPn := Lib.hid (PS.next (m' := 200 + 66 * (i + 1)) HC.out HPa.out HO1.out HG1.out ho2 hr2 (by have := HPa.out.len; omega))
                      have HOn := Lib.hid (show OpB gO (.slice B m cb) z2 from ho2.cell HOz.out (fun e => HGS.out e))
                      have HXn := Lib.hid (ho2.ext HXz.out (fun b hb => by rw [hb]; exact (HPa.out.yb σ HPa.out.rl.home).1))
                      clear ho2 hr2 hno2
                      go_wp2
                      refine ⟨fun _ => HOn.out, ?_⟩
                      refine plan_one rfl (fun K hK => ?_)
                      go_wp2
                      refine ⟨by first | exact HOn.out | exact fun _ => HOn.out, ?_⟩
                      refine plan_one rfl (fun K hK => ?_)
                      go_wp2
                      refine ⟨fun h => absurd h (by decide), ?_⟩
                      unfold wpPlan
                      go_wp2_with fail
                      go_meet
                      exact ⟨rfl, _, _, lb, σ, _, _, rfl, rfl, HPn.out, HXn.out⟩
                · have dk3 : (K0 == 3) = false := by simp; exact e3
                  by_cases e4 : K0 = 4
                  · subst e4
                    go_upto_region 20 with (fail)
                    obtain ⟨A1, m1, c1, B1, k1, d1, V1, r1, e1, hrow, _, hsf, hsl, _, _, _, hlk⟩ := HPU.out.rl
                    have HSF := Lib.hid hsf
                    have HSL := Lib.hid hsl
                    have HLK := Lib.hid hlk
                    have HCL := Lib.hid (show OpD gO σ (.int .i64 P) (.int .u8 (T : Int)) (.slice B m cb) (.slice A1 m1 c1) (.slice B1 k1 d1) u0 from ⟨HOQ.out.1, HOQ.out.2.1, HOB.out, (log37_at hrow).1, (log37_at hrow).2.1⟩)
                    have HLN := Lib.hid (show m1 + k1 ≤ 200 + 66 * i from by
                      have h1 := parts12_le R k
                      have h2 := HPU.out.len
                      have h4 := hsf.len
                      have h5 := hsl.len
                      omega)
                    clear hrow hsf hsl hlk
                    refine wp_region_plan (OpD gO σ (.int .i64 P) (.int .u8 (T : Int)) (.slice B m cb) (.slice A1 m1 c1) (.slice B1 k1 d1)) [0, 1, 2, 3, 4, 5, 6, 7, 8, 9, 10, 11, 12, 13, 14, 15, 16, 17, 18] (.yes 0 (.yes 2 (.yes 3 (.yes 4 (.yes 5 (.yes 8 (.yes 9 (.yes 10 (.yes 11 (.yes 12 (.yes 13 (.yes 14 (.yes 15 (.one 1 (.one 6 (.one 7 (.one 16 (.one 17 (.one 18 (.one 19 .done)))))))))))))))))))) (by kernel_rfl) (fun c a a' w e h => ⟨e ▸ h.1, h.2⟩) (by kernel_rfl) (HCL.out.ext ((Ext.refl u0).drew)) ?_
                    refine plan_yes rfl (fun K hK => ?_); go_simp; refine ⟨_, fun _ _ => rfl, hK _ ?_⟩; clear hK K
                    refine plan_yes rfl (fun K hK => ?_); go_simp; refine ⟨_, fun _ _ => rfl, hK _ ?_⟩; clear hK K
                    refine plan_yes rfl (fun K hK => ?_); go_simp; refine ⟨.int .i64 P, fun W hW => ?_, hK _ ?_⟩
                    · have k0 := hW.a; have k1 := hW.b; have k2 := hW.c; have k3 := hW.d; have k4 := hW.e
                      go_simp
                    clear hK K
                    refine plan_yes rfl (fun K hK => ?_); go_simp; refine ⟨_, fun _ _ => rfl, hK _ ?_⟩; clear hK K
                    refine plan_yes rfl (fun K hK => ?_); go_simp; refine ⟨.int .u8 (T : Int), fun W hW => ?_, hK _ ?_⟩
                    · have k0 := hW.a; have k1 := hW.b; have k2 := hW.c; have k3 := hW.d; have k4 := hW.e
                      go_simp
                    clear hK K
                    refine plan_yes rfl (fun K hK => ?_); go_simp; refine ⟨_, fun _ _ => rfl, hK _ ?_⟩; clear hK K
                    refine plan_yes rfl (fun K hK => ?_); go_simp; refine ⟨_, fun _ _ => rfl, hK _ ?_⟩; clear hK K
                    refine plan_yes rfl (fun K hK => ?_); go_simp; refine ⟨_, fun _ _ => rfl, hK _ ?_⟩; clear hK K
                    refine plan_yes rfl (fun K hK => ?_); go_simp; refine ⟨.agg #[.slice A1 m1 c1, .slice B1 k1 d1], fun W hW => ?_, hK _ ?_⟩
                    · have k0 := hW.a; have k1 := hW.b; have k2 := hW.c; have k3 := hW.d; have k4 := hW.e
                      go_simp
                    clear hK K
                    refine plan_yes rfl (fun K hK => ?_); go_simp; refine ⟨_, fun _ _ => rfl, hK _ ?_⟩; clear hK K
                    refine plan_yes rfl (fun K hK => ?_); go_simp; refine ⟨.int .i64 P, fun W hW => ?_, hK _ ?_⟩
                    · have k0 := hW.a; have k1 := hW.b; have k2 := hW.c; have k3 := hW.d; have k4 := hW.e
                      go_simp
                    clear hK K
                    refine plan_yes rfl (fun K hK => ?_); go_simp; refine ⟨_, fun _ _ => rfl, hK _ ?_⟩; clear hK K
                    refine plan_yes rfl (fun K hK => ?_); go_simp; refine ⟨.int .u8 (T : Int), fun W hW => ?_, hK _ ?_⟩
                    · have k0 := hW.a; have k1 := hW.b; have k2 := hW.c; have k3 := hW.d; have k4 := hW.e
                      go_simp
                    clear hK K
                    have HXa := Lib.hid (show Ext u0 u0.drew from (Ext.refl u0).drew)
                    have HPa := Lib.hid (PS.ext HC.out HPU.out HXa.out)
                    have HCa := Lib.hid (HCL.out.ext HXa.out)
                    generalize u0.drew = y0 at HXa HPa HCa ⊢
                    refine plan_one rfl (fun K hK => ?_)
                    go_wp2_with fail
                    refine (lg_disk HC.out HPa.out.lg (Nat.le_trans HPa.out.len (by omega))).mono ?_
                    rintro e y1 ⟨hx, A2, m2, c2, B2, k2, d2, rfl, hs1, hs2⟩
                    have en : m1 = m2 := HSF.out.len.symm.trans hs1.len
                    have em : k1 = k2 := HSL.out.len.symm.trans hs2.len
                    subst en; subst em
                    have HXb := Lib.hid (HXa.out.trans hx)
                    have HD1 := Lib.hid hs1
                    have HD2 := Lib.hid hs2
                    clear hx hs1 hs2
                    go_wp2
                    refine ⟨fun _ => HCL.out.ext HXb.out, ?_⟩
                    refine plan_one rfl (fun K hK => ?_)
                    go_wp2_with fail
                    refine (dk_crash HC.out P T _ HD1.out.len HD2.out.len HD1.out.rd HD2.out.rd (by have := HLN.out; omega) (by have := HLN.out; omega) HD2.out.cap HTB.out).mono ?_
                    rintro e y2 ⟨hx, A3, m3, c3, B3, k3, d3, rfl, hs1, hs2⟩
                    have em : k3 = 0 := by rw [← hs2.len]; rfl
                    subst em
                    have HM3 := Lib.hid (show m3 ≤ 200 + 66 * i from by
                      have h1 := hs1.len
                      rw [List.length_append, crs_len _ _ _ (by rw [HSL.out.len]; exact kept_le _ _), HSF.out.len] at h1
                      have h2 := kept_le P k1
                      have h3 := HLN.out
                      omega)
                    have HXc := Lib.hid (HXb.out.trans hx)
                    have HE1 := Lib.hid hs1
                    have HE2 := Lib.hid hs2
                    clear hx hs1 hs2
                    go_wp2
                    refine ⟨fun _ => HCL.out.ext HXc.out, ?_⟩
                    refine plan_one rfl (fun K hK => ?_)
                    go_wp2_with fail
                    refine (lg_open HC.out _ HE1.out.len HE2.out.len HE1.out.rd HE2.out.rd (by have := HM3.out; omega)).mono ?_
                    rw [List.append_nil]
                    rintro e y3 ⟨hx, lb', X', rfl, hg, _⟩
                    have HXo := Lib.hid hx
                    have HXd := Lib.hid (HXc.out.trans hx)
                    have HG' := Lib.hid hg
                    clear hx hg
                    go_wp2
                    refine ⟨fun _ => HCL.out.ext HXd.out, ?_⟩
                    refine plan_one rfl (fun K hK => ?_)
                    go_wp2_with fail
                    refine (ref12_crash P T _ HSF.out.len HSL.out.len (HSF.out.rd.ext HXd.out) (HSL.out.rd.ext HXd.out) (by have := HLN.out; omega) (by have := HLN.out; omega) HSL.out.cap HTB.out).mono ?_
                    rintro e y4 ⟨hx, A4, m4, c4, rfl, hst⟩
                    have en : m3 = m4 := HE1.out.len.symm.trans hst.len
                    subst en
                    have HXe := Lib.hid (HXd.out.trans hx)
                    have HXoe := Lib.hid (HXo.out.trans hx)
                    have HXe1 := Lib.hid hx
                    have HF4 := Lib.hid hst
                    clear hx hst
                    go_wp2
                    refine ⟨fun _ => HCL.out.ext HXe.out, ?_⟩
                    refine plan_one rfl (fun K hK => ?_)
                    go_wp2_with fail
                    refine (ref12_open _ HF4.out.len l_nil0 HF4.out.rd (Rd.nil _ _) (by have := HM3.out; omega)).mono ?_
                    rw [List.append_nil]
                    rintro e y5 ⟨hx, σ', rfl, hr⟩
                    have HPn := Lib.hid (PS.open (I := I) (m := 200 + 66 * (i + 1)) (Nat.le_trans HPU.out.b0 HXc.out.size) HXoe.out.size (Lg.ext HC.out HG'.out (HXe1.out.trans hx)) (fun b h => Nat.lt_of_lt_of_le (HG'.out.2 b h).2 HXe1.out.size) hx hr (Nat.le_trans (fl_al_le _ HF4.out.rd.1) (by rw [HF4.out.len]; have := HM3.out; omega)))
                    have HXn := Lib.hid (HXe.out.trans hx)
                    clear hx hr
                    go_wp2
                    refine ⟨fun _ => HCL.out.ext HXn.out, ?_⟩
                    refine plan_one rfl (fun K hK => ?_)
                    go_wp2
                    refine ⟨by first | exact HCL.out.ext HXn.out | exact fun _ => HCL.out.ext HXn.out, ?_⟩
                    refine plan_one rfl (fun K hK => ?_)
                    go_wp2
                    refine ⟨fun h => absurd h (by decide), ?_⟩
                    unfold wpPlan
                    go_wp2_with fail
                    go_meet
                    exact ⟨rfl, _, _, lb', σ', _, _, rfl, rfl, HPn.out, HXU.out.trans HXn.out⟩
                  · have dk4 : (K0 == 4) = false := by simp; exact e4
                    by_cases e5 : K0 = 5
                    · subst e5
                      go_upto_region 22 with (fail)
                      obtain ⟨A1, m1, c1, B1, k1, d1, V1, r1, e1, hrow, _, hsf, hsl, _, _, _, hlk⟩ := HPU.out.rl
                      have HSF := Lib.hid hsf
                      have HSL := Lib.hid hsl
                      have HLK := Lib.hid hlk
                      have HCL := Lib.hid (show OpD gO σ (.int .i64 P) (.int .u8 (T : Int)) (.slice B m cb) (.slice A1 m1 c1) (.slice B1 k1 d1) u0 from ⟨HOQ.out.1, HOQ.out.2.1, HOB.out, (log37_at hrow).1, (log37_at hrow).2.1⟩)
                      have HLN := Lib.hid (show m1 + k1 ≤ 200 + 66 * i from by
                        have h1 := parts12_le R k
                        have h2 := HPU.out.len
                        have h4 := hsf.len
                        have h5 := hsl.len
                        omega)
                      clear hrow hsf hsl hlk
                      refine wp_region_plan (OpD gO σ (.int .i64 P) (.int .u8 (T : Int)) (.slice B m cb) (.slice A1 m1 c1) (.slice B1 k1 d1)) [0, 1, 2, 3, 4, 5, 6, 7, 8, 9, 10, 11, 12, 13, 14, 15, 16, 17, 18, 19, 20, 21, 22, 23] (.yes 0 (.yes 2 (.yes 3 (.yes 6 (.yes 7 (.yes 8 (.yes 9 (.yes 10 (.yes 12 (.yes 13 (.yes 14 (.yes 15 (.yes 16 (.yes 18 (.yes 19 (.two 1 (.two 4 (.two 5 (.one 11 (.one 17 (.one 20 (.one 21 (.one 22 (.one 23 (.one 24 .done))))))) 11 (.one 5 (.one 17 (.one 20 (.one 21 (.one 22 (.one 23 (.one 24 .done)))))))) 11 (.one 4 (.one 5 (.one 17 (.one 20 (.one 21 (.one 22 (.one 23 (.one 24 .done))))))))) 11 (.one 1 (.one 4 (.one 5 (.one 17 (.one 20 (.one 21 (.one 22 (.one 23 (.one 24 .done))))))))))))))))))))))))) (by kernel_rfl) (fun c a a' w e h => ⟨e ▸ h.1, h.2⟩) (by kernel_rfl) (HCL.out.ext ((Ext.refl u0).drew)) ?_
                      refine plan_yes rfl (fun K hK => ?_); go_simp; refine ⟨_, fun _ _ => rfl, hK _ ?_⟩; clear hK K
                      refine plan_yes rfl (fun K hK => ?_); go_simp; refine ⟨_, fun _ _ => rfl, hK _ ?_⟩; clear hK K
                      refine plan_yes rfl (fun K hK => ?_); go_simp; refine ⟨.slice B m cb, fun W hW => ?_, hK _ ?_⟩
                      · have k0 := hW.a; have k1 := hW.b; have k2 := hW.c; have k3 := hW.d; have k4 := hW.e
                        go_simp
                      clear hK K
                      refine plan_yes rfl (fun K hK => ?_); go_simp; refine ⟨_, fun _ _ => rfl, hK _ ?_⟩; clear hK K
                      refine plan_yes rfl (fun K hK => ?_); go_simp; refine ⟨_, fun _ _ => rfl, hK _ ?_⟩; clear hK K
                      refine plan_yes rfl (fun K hK => ?_); go_simp; refine ⟨_, fun _ _ => rfl, hK _ ?_⟩; clear hK K
                      refine plan_yes rfl (fun K hK => ?_); go_simp; refine ⟨_, fun _ _ => rfl, hK _ ?_⟩; clear hK K
                      refine plan_yes rfl (fun K hK => ?_); go_simp; refine ⟨.slice A1 m1 c1, fun W hW => ?_, hK _ ?_⟩
                      · have k0 := hW.a; have k1 := hW.b; have k2 := hW.c; have k3 := hW.d; have k4 := hW.e
                        go_simp
                      clear hK K
                      refine plan_yes rfl (fun K hK => ?_); go_simp; refine ⟨_, fun _ _ => rfl, hK _ ?_⟩; clear hK K
                      refine plan_yes rfl (fun K hK => ?_); go_simp; refine ⟨_, fun _ _ => rfl, hK _ ?_⟩; clear hK K
                      refine plan_yes rfl (fun K hK => ?_); go_simp; refine ⟨_, fun _ _ => rfl, hK _ ?_⟩; clear hK K
                      refine plan_yes rfl (fun K hK => ?_); go_simp; refine ⟨_, fun _ _ => rfl, hK _ ?_⟩; clear hK K
                      refine plan_yes rfl (fun K hK => ?_); go_simp; refine ⟨.slice B1 k1 d1, fun W hW => ?_, hK _ ?_⟩
                      · have k0 := hW.a; have k1 := hW.b; have k2 := hW.c; have k3 := hW.d; have k4 := hW.e
                        go_simp
                      clear hK K
                      refine plan_yes rfl (fun K hK => ?_); go_simp; refine ⟨_, fun _ _ => rfl, hK _ ?_⟩; clear hK K
                      refine plan_yes rfl (fun K hK => ?_); go_simp; refine ⟨.slice B m cb, fun W hW => ?_, hK _ ?_⟩
                      · have k0 := hW.a; have k1 := hW.b; have k2 := hW.c; have k3 := hW.d; have k4 := hW.e
                        go_simp
                      clear hK K
                      have HXa := Lib.hid (show Ext u0 u0.drew from (Ext.refl u0).drew)
                      have HPa := Lib.hid (PS.ext HC.out HPU.out HXa.out)
                      generalize u0.drew = y0 at HXa HPa ⊢
                      refine plan_two rfl rfl (fun K hK => ?_) (fun K hK => ?_)
                      · skip
                        have HPq := Lib.hid (PS.ext HC.out HPU.out HXa.out)
                        go_wp2_with fail
                        refine (lg_disk HC.out HPq.out.lg (Nat.le_trans HPq.out.len (by omega))).mono ?_
                        rintro e q1 ⟨hx, A2, m2, c2, B2, k2, d2, rfl, hs1, hs2⟩
                        have en : m1 = m2 := HSF.out.len.symm.trans hs1.len
                        have em : k1 = k2 := HSL.out.len.symm.trans hs2.len
                        subst en; subst em
                        have HQ2 := Lib.hid (HXa.out.trans hx)
                        have HQ3 := Lib.hid hs1
                        have HQ4 := Lib.hid hs2
                        clear hx hs1 hs2 HPq
                        go_wp2
                        refine ⟨by first | exact HCL.out.ext HQ2.out | exact fun _ => HCL.out.ext HQ2.out, ?_⟩
                        refine plan_two rfl rfl (fun K hK => ?_) (fun K hK => ?_)
                        · skip
                          go_wp2_with fail
                          refine (dk_write HC.out _ HQ3.out.len HQ4.out.len HM.out HQ3.out.rd HQ4.out.rd (HBR.out.ext (HX1.out.trans (HXU.out.trans HQ2.out))) (by have := HLN.out; omega) (by have := HLN.out; omega) (by omega)).mono ?_
                          rintro e q5 ⟨hx, A3, m3, c3, B3, k3, d3, rfl, hs1, hs2⟩
                          have en : m1 = m3 := HSF.out.len.symm.trans hs1.len
                          have em : k1 + m = k3 := by rw [← hs2.len, List.length_append, HSL.out.len, HM.out]
                          subst en; subst em
                          have HQ6 := Lib.hid (HQ2.out.trans hx)
                          have HQ7 := Lib.hid (HQ3.out.ext hx)
                          have HQ8 := Lib.hid (HQ4.out.ext hx)
                          have HQ9 := Lib.hid hs1
                          have HQ10 := Lib.hid hs2
                          clear hx hs1 hs2
                          go_wp2
                          refine ⟨by first | exact HCL.out.ext HQ6.out | exact fun _ => HCL.out.ext HQ6.out, ?_⟩
                          refine plan_two rfl rfl (fun K hK => ?_) (fun K hK => ?_)
                          · skip
                            go_wp2_with fail
                            refine (lg_open HC.out _ HQ9.out.len HQ10.out.len HQ9.out.rd HQ10.out.rd (by have := HLN.out; omega)).mono ?_
                            rintro e q11 ⟨hx, lb', X', rfl, hg, hlo⟩
                            have HQ12 := Lib.hid (HQ6.out.trans hx)
                            have HQ14 := Lib.hid (show v1.heap.size ≤ q5.heap.size from Nat.le_trans HPU.out.b0 HQ6.out.size)
                            have HQ15 := Lib.hid (show q5.heap.size ≤ q11.heap.size from hx.size)
                            have HQ17 := Lib.hid (HQ7.out.ext hx)
                            have HQ18 := Lib.hid (HQ8.out.ext hx)
                            have HQ19 := Lib.hid (HQ9.out.ext hx)
                            have HQ20 := Lib.hid (HQ10.out.ext hx)
                            have HQ13 := Lib.hid hg
                            clear hx hg hlo
                            go_wp2
                            refine ⟨by first | exact HCL.out.ext HQ12.out | exact fun _ => HCL.out.ext HQ12.out, ?_⟩
                            refine plan_one rfl (fun K hK => ?_)
                            have hx := (Ext.refl q11).alloc (.cells #[] 5)
                            have HQ24 := Lib.hid ((mine_empty q11).down (base' := u0.heap.size) HQ12.out.size)
                            have HQ22 := Lib.hid (HQ12.out.trans hx)
                            obtain ⟨b23, hb⟩ : ∃ b, q11.heap.size = b := ⟨_, rfl⟩
                            have HQ25 := Lib.hid (fun h (hh : X' h) => show h ≠ b23 from by have h1 := (HQ13.out.2 h hh).2; omega)
                            have HQ26 := Lib.hid (HQ17.out.ext hx)
                            have HQ27 := Lib.hid (HQ18.out.ext hx)
                            have HQ28 := Lib.hid (HQ19.out.ext hx)
                            have HQ29 := Lib.hid (HQ20.out.ext hx)
                            have HQ30 := Lib.hid (Lg.ext HC.out HQ13.out hx)
                            have HQ31 := Lib.hid (Nat.le_trans HQ15.out (Ext.size hx))
                            rw [hb] at HQ24
                            go_wp2
                            refine ⟨by first | exact HCL.out.ext HQ22.out | exact fun _ => HCL.out.ext HQ22.out, ?_⟩
                            try rw [hb]
                            clear hx hb
                            generalize q11.alloc (.cells #[] 5) = q21 at HQ24 HQ26 HQ27 HQ28 HQ29 HQ30 HQ31 HQ22 ⊢
                            refine plan_one rfl (fun K hK => ?_)
                            go_wp2_with (at_builtin; refine wpList_append_new rfl (.tmp 128) (.tmp 133) rfl u0.heap.size b23 (fl (R.drop k)) rfl HQ24.out B1 k1 d1 rfl HSL.out.len (HSL.out.rd.ext HQ22.out) (by rw [HSL.out.len]; have := HLN.out; omega) HQ22.out.size ?_; intro vv t1 hm hx hq; obtain ⟨A5, n5, c5, ev, hst⟩ := hm.st HSL.out.rd.1; have en := HSL.out.len.symm.trans hst.len; subst en; subst ev; have HT5 := Lib.hid hm; have HXt := Lib.hid (HQ22.out.trans hx); have HGt := Lib.hid (Lg.ext HC.out HQ30.out hx); have HTt := Lib.hid (Nat.le_trans HQ31.out hx.size); have HNQ := Lib.hid (fun h (hh : X' h) (e : (Value.slice A5 k1 c5).ownBlock = some h) => show False from by have h1 := (HQ30.out.2 h hh).2; have h2 := HQ25.out h hh; rcases hq h e with h3 | h3 <;> omega); clear hm hx hq hst)
                            refine ⟨fun _ => HCL.out.ext HXt.out, ?_⟩
                            refine plan_one rfl (fun K hK => ?_)
                            go_wp2_with (at_builtin; refine wpList_append_rd rfl (.tmp 134) (.tmp 136) rfl u0.heap.size (.slice A5 k1 c5) (fl (R.drop k)) (obs l i) rfl HT5.out B m cb rfl HM.out (HBR.out.ext (HX1.out.trans (HXU.out.trans HXt.out))) (by rw [HSL.out.len, HM.out]; have := HLN.out; omega) HXt.out.size ?_; intro vv t2 hm hg _; have ho2 : Only (fun q => (Value.slice A5 k1 c5).ownBlock = some q) t1 t2 := Only.of_grown hg (fun q e => e); obtain ⟨A6, n6, c6, ev, hst⟩ := hm.st (sm12_app HSL.out.rd.1 HBR.out.1); have en : k1 + m = n6 := (by rw [← hst.len, List.length_append, HSL.out.len, HM.out]); subst en; subst ev; have HXu := Lib.hid (show Ext u0 t2 from HXt.out.more hg (fun q hq => (HT5.out.block q hq).1)); have HGu := Lib.hid (Lg.only HC.out HGt.out ho2 (fun h hh e => HNQ.out h hh e)); have HTu := Lib.hid (Nat.le_trans HTt.out ho2.size); have HST := Lib.hid hst; clear hm hg ho2 hst)
                            refine ⟨fun _ => HCL.out.ext HXu.out, ?_⟩
                            refine plan_one rfl (fun K hK => ?_)
                            go_wp2
                            refine ⟨by first | exact HCL.out.ext HXu.out | exact fun _ => HCL.out.ext HXu.out, ?_⟩
                            refine plan_one rfl (fun K hK => ?_)
                            go_wp2_with fail
                            refine (ref12_open _ HSF.out.len HST.out.len (HSF.out.rd.ext HXu.out) HST.out.rd (by have := HLN.out; omega)).mono ?_
                            rintro e t3 ⟨hx, σ', rfl, hr⟩
                            have HPn := Lib.hid (PS.open (I := I) (m := 200 + 66 * (i + 1)) HQ14.out HTu.out (Lg.ext HC.out HGu.out hx) (fun b h => (HGu.out.2 b h).2) hx hr (Nat.le_trans (fl_al_le _ (sm12_app HSF.out.rd.1 HST.out.rd.1)) (by rw [List.length_append, HSF.out.len, HST.out.len]; have := HLN.out; omega)))
                            have HXn := Lib.hid (HXu.out.trans hx)
                            clear hx hr
                            go_wp2
                            refine ⟨fun _ => HCL.out.ext HXn.out, ?_⟩
                            refine plan_one rfl (fun K hK => ?_)
                            go_wp2
                            refine ⟨by first | exact HCL.out.ext HXn.out | exact fun _ => HCL.out.ext HXn.out, ?_⟩
                            refine plan_one rfl (fun K hK => ?_)
                            go_wp2
                            refine ⟨fun h => absurd h (by decide), ?_⟩
                            unfold wpPlan
                            go_wp2_with fail
                            go_meet
                            exact ⟨rfl, _, _, lb', σ', _, _, rfl, rfl, HPn.out, HXU.out.trans HXn.out⟩
                          · skip
                            have hx := (Ext.refl q5).alloc (.cells #[] 5)
                            have HQ35 := Lib.hid ((mine_empty q5).down (base' := u0.heap.size) HQ6.out.size)
                            have HQ33 := Lib.hid (HQ6.out.trans hx)
                            obtain ⟨b34, hb⟩ : ∃ b, q5.heap.size = b := ⟨_, rfl⟩
                            have HQ37 := Lib.hid (HQ7.out.ext hx)
                            have HQ38 := Lib.hid (HQ8.out.ext hx)
                            have HQ39 := Lib.hid (HQ9.out.ext hx)
                            have HQ40 := Lib.hid (HQ10.out.ext hx)
                            rw [hb] at HQ35
                            go_wp2
                            refine ⟨by first | exact HCL.out.ext HQ33.out | exact fun _ => HCL.out.ext HQ33.out, ?_⟩
                            try rw [hb]
                            clear hx hb
                            generalize q5.alloc (.cells #[] 5) = q32 at HQ35 HQ37 HQ38 HQ39 HQ40 HQ33 ⊢
                            refine plan_one rfl (fun K hK => ?_)
                            go_wp2_with fail
                            refine (lg_open HC.out _ HQ39.out.len HQ40.out.len HQ39.out.rd HQ40.out.rd (by have := HLN.out; omega)).mono ?_
                            rintro e q41 ⟨hx, lb', X', rfl, hg, hlo⟩
                            have HQ42 := Lib.hid (HQ33.out.trans hx)
                            have HQ44 := Lib.hid (show v1.heap.size ≤ q32.heap.size from Nat.le_trans HPU.out.b0 HQ33.out.size)
                            have HQ45 := Lib.hid (show q32.heap.size ≤ q41.heap.size from hx.size)
                            have HQ46 := Lib.hid (fun h (hh : X' h) => show h ≠ b34 from by have h1 := hlo h hh; have h2 := (HQ35.out.block b34 rfl).2; omega)
                            have HQ47 := Lib.hid (mine_ext HQ35.out hx)
                            have HQ48 := Lib.hid (HQ37.out.ext hx)
                            have HQ49 := Lib.hid (HQ38.out.ext hx)
                            have HQ50 := Lib.hid (HQ39.out.ext hx)
                            have HQ51 := Lib.hid (HQ40.out.ext hx)
                            have HQ43 := Lib.hid hg
                            clear hx hg hlo
                            go_wp2
                            refine ⟨by first | exact HCL.out.ext HQ42.out | exact fun _ => HCL.out.ext HQ42.out, ?_⟩
                            refine plan_one rfl (fun K hK => ?_)
                            go_wp2_with (at_builtin; refine wpList_append_new rfl (.tmp 128) (.tmp 133) rfl u0.heap.size b34 (fl (R.drop k)) rfl HQ47.out B1 k1 d1 rfl HSL.out.len (HSL.out.rd.ext HQ42.out) (by rw [HSL.out.len]; have := HLN.out; omega) HQ42.out.size ?_; intro vv t1 hm hx hq; obtain ⟨A5, n5, c5, ev, hst⟩ := hm.st HSL.out.rd.1; have en := HSL.out.len.symm.trans hst.len; subst en; subst ev; have HT5 := Lib.hid hm; have HXt := Lib.hid (HQ42.out.trans hx); have HGt := Lib.hid (Lg.ext HC.out HQ43.out hx); have HTt := Lib.hid (Nat.le_trans HQ45.out hx.size); have HNQ := Lib.hid (fun h (hh : X' h) (e : (Value.slice A5 k1 c5).ownBlock = some h) => show False from by have h1 := (HQ43.out.2 h hh).2; have h2 := HQ46.out h hh; rcases hq h e with h3 | h3 <;> omega); clear hm hx hq hst)
                            refine ⟨fun _ => HCL.out.ext HXt.out, ?_⟩
                            refine plan_one rfl (fun K hK => ?_)
                            go_wp2_with (at_builtin; refine wpList_append_rd rfl (.tmp 134) (.tmp 136) rfl u0.heap.size (.slice A5 k1 c5) (fl (R.drop k)) (obs l i) rfl HT5.out B m cb rfl HM.out (HBR.out.ext (HX1.out.trans (HXU.out.trans HXt.out))) (by rw [HSL.out.len, HM.out]; have := HLN.out; omega) HXt.out.size ?_; intro vv t2 hm hg _; have ho2 : Only (fun q => (Value.slice A5 k1 c5).ownBlock = some q) t1 t2 := Only.of_grown hg (fun q e => e); obtain ⟨A6, n6, c6, ev, hst⟩ := hm.st (sm12_app HSL.out.rd.1 HBR.out.1); have en : k1 + m = n6 := (by rw [← hst.len, List.length_append, HSL.out.len, HM.out]); subst en; subst ev; have HXu := Lib.hid (show Ext u0 t2 from HXt.out.more hg (fun q hq => (HT5.out.block q hq).1)); have HGu := Lib.hid (Lg.only HC.out HGt.out ho2 (fun h hh e => HNQ.out h hh e)); have HTu := Lib.hid (Nat.le_trans HTt.out ho2.size); have HST := Lib.hid hst; clear hm hg ho2 hst)
                            refine ⟨fun _ => HCL.out.ext HXu.out, ?_⟩
                            refine plan_one rfl (fun K hK => ?_)
                            go_wp2
                            refine ⟨by first | exact HCL.out.ext HXu.out | exact fun _ => HCL.out.ext HXu.out, ?_⟩
                            refine plan_one rfl (fun K hK => ?_)
                            go_wp2_with fail
                            refine (ref12_open _ HSF.out.len HST.out.len (HSF.out.rd.ext HXu.out) HST.out.rd (by have := HLN.out; omega)).mono ?_
                            rintro e t3 ⟨hx, σ', rfl, hr⟩
                            have HPn := Lib.hid (PS.open (I := I) (m := 200 + 66 * (i + 1)) HQ44.out HTu.out (Lg.ext HC.out HGu.out hx) (fun b h => (HGu.out.2 b h).2) hx hr (Nat.le_trans (fl_al_le _ (sm12_app HSF.out.rd.1 HST.out.rd.1)) (by rw [List.length_append, HSF.out.len, HST.out.len]; have := HLN.out; omega)))
                            have HXn := Lib.hid (HXu.out.trans hx)
                            clear hx hr
                            go_wp2
                            refine ⟨fun _ => HCL.out.ext HXn.out, ?_⟩
                            refine plan_one rfl (fun K hK => ?_)
                            go_wp2
                            refine ⟨by first | exact HCL.out.ext HXn.out | exact fun _ => HCL.out.ext HXn.out, ?_⟩
                            refine plan_one rfl (fun K hK => ?_)
                            go_wp2
                            refine ⟨fun h => absurd h (by decide), ?_⟩
                            unfold wpPlan
                            go_wp2_with fail
                            go_meet
                            exact ⟨rfl, _, _, lb', σ', _, _, rfl, rfl, HPn.out, HXU.out.trans HXn.out⟩
                        · skip
                          have hx := (Ext.refl q1).alloc (.cells #[] 5)
                          have HQ55 := Lib.hid ((mine_empty q1).down (base' := u0.heap.size) HQ2.out.size)
                          have HQ53 := Lib.hid (HQ2.out.trans hx)
                          obtain ⟨b54, hb⟩ : ∃ b, q1.heap.size = b := ⟨_, rfl⟩
                          have HQ57 := Lib.hid (HQ3.out.ext hx)
                          have HQ58 := Lib.hid (HQ4.out.ext hx)
                          rw [hb] at HQ55
                          go_wp2
                          refine ⟨by first | exact HCL.out.ext HQ53.out | exact fun _ => HCL.out.ext HQ53.out, ?_⟩
                          try rw [hb]
                          clear hx hb
                          generalize q1.alloc (.cells #[] 5) = q52 at HQ55 HQ57 HQ58 HQ53 ⊢
                          refine plan_one rfl (fun K hK => ?_)
                          go_wp2_with fail
                          refine (dk_write HC.out _ HQ57.out.len HQ58.out.len HM.out HQ57.out.rd HQ58.out.rd (HBR.out.ext (HX1.out.trans (HXU.out.trans HQ53.out))) (by have := HLN.out; omega) (by have := HLN.out; omega) (by omega)).mono ?_
                          rintro e q59 ⟨hx, A3, m3, c3, B3, k3, d3, rfl, hs1, hs2⟩
                          have en : m1 = m3 := HSF.out.len.symm.trans hs1.len
                          have em : k1 + m = k3 := by rw [← hs2.len, List.length_append, HSL.out.len, HM.out]
                          subst en; subst em
                          have HQ60 := Lib.hid (HQ53.out.trans hx)
                          have HQ61 := Lib.hid (mine_ext HQ55.out hx)
                          have HQ62 := Lib.hid (HQ57.out.ext hx)
                          have HQ63 := Lib.hid (HQ58.out.ext hx)
                          have HQ64 := Lib.hid hs1
                          have HQ65 := Lib.hid hs2
                          clear hx hs1 hs2
                          go_wp2
                          refine ⟨by first | exact HCL.out.ext HQ60.out | exact fun _ => HCL.out.ext HQ60.out, ?_⟩
                          refine plan_one rfl (fun K hK => ?_)
                          go_wp2_with fail
                          refine (lg_open HC.out _ HQ64.out.len HQ65.out.len HQ64.out.rd HQ65.out.rd (by have := HLN.out; omega)).mono ?_
                          rintro e q66 ⟨hx, lb', X', rfl, hg, hlo⟩
                          have HQ67 := Lib.hid (HQ60.out.trans hx)
                          have HQ69 := Lib.hid (show v1.heap.size ≤ q59.heap.size from Nat.le_trans HPU.out.b0 HQ60.out.size)
                          have HQ70 := Lib.hid (show q59.heap.size ≤ q66.heap.size from hx.size)
                          have HQ71 := Lib.hid (fun h (hh : X' h) => show h ≠ b54 from by have h1 := hlo h hh; have h2 := (HQ61.out.block b54 rfl).2; omega)
                          have HQ72 := Lib.hid (mine_ext HQ61.out hx)
                          have HQ73 := Lib.hid (HQ62.out.ext hx)
                          have HQ74 := Lib.hid (HQ63.out.ext hx)
                          have HQ75 := Lib.hid (HQ64.out.ext hx)
                          have HQ76 := Lib.hid (HQ65.out.ext hx)
                          have HQ68 := Lib.hid hg
                          clear hx hg hlo
                          go_wp2
                          refine ⟨by first | exact HCL.out.ext HQ67.out | exact fun _ => HCL.out.ext HQ67.out, ?_⟩
                          refine plan_one rfl (fun K hK => ?_)
                          go_wp2_with (at_builtin; refine wpList_append_new rfl (.tmp 128) (.tmp 133) rfl u0.heap.size b54 (fl (R.drop k)) rfl HQ72.out B1 k1 d1 rfl HSL.out.len (HSL.out.rd.ext HQ67.out) (by rw [HSL.out.len]; have := HLN.out; omega) HQ67.out.size ?_; intro vv t1 hm hx hq; obtain ⟨A5, n5, c5, ev, hst⟩ := hm.st HSL.out.rd.1; have en := HSL.out.len.symm.trans hst.len; subst en; subst ev; have HT5 := Lib.hid hm; have HXt := Lib.hid (HQ67.out.trans hx); have HGt := Lib.hid (Lg.ext HC.out HQ68.out hx); have HTt := Lib.hid (Nat.le_trans HQ70.out hx.size); have HNQ := Lib.hid (fun h (hh : X' h) (e : (Value.slice A5 k1 c5).ownBlock = some h) => show False from by have h1 := (HQ68.out.2 h hh).2; have h2 := HQ71.out h hh; rcases hq h e with h3 | h3 <;> omega); clear hm hx hq hst)
                          refine ⟨fun _ => HCL.out.ext HXt.out, ?_⟩
                          refine plan_one rfl (fun K hK => ?_)
                          go_wp2_with (at_builtin; refine wpList_append_rd rfl (.tmp 134) (.tmp 136) rfl u0.heap.size (.slice A5 k1 c5) (fl (R.drop k)) (obs l i) rfl HT5.out B m cb rfl HM.out (HBR.out.ext (HX1.out.trans (HXU.out.trans HXt.out))) (by rw [HSL.out.len, HM.out]; have := HLN.out; omega) HXt.out.size ?_; intro vv t2 hm hg _; have ho2 : Only (fun q => (Value.slice A5 k1 c5).ownBlock = some q) t1 t2 := Only.of_grown hg (fun q e => e); obtain ⟨A6, n6, c6, ev, hst⟩ := hm.st (sm12_app HSL.out.rd.1 HBR.out.1); have en : k1 + m = n6 := (by rw [← hst.len, List.length_append, HSL.out.len, HM.out]); subst en; subst ev; have HXu := Lib.hid (show Ext u0 t2 from HXt.out.more hg (fun q hq => (HT5.out.block q hq).1)); have HGu := Lib.hid (Lg.only HC.out HGt.out ho2 (fun h hh e => HNQ.out h hh e)); have HTu := Lib.hid (Nat.le_trans HTt.out ho2.size); have HST := Lib.hid hst; clear hm hg ho2 hst)
                          refine ⟨fun _ => HCL.out.ext HXu.out, ?_⟩
                          refine plan_one rfl (fun K hK => ?_)
                          go_wp2
                          refine ⟨by first | exact HCL.out.ext HXu.out | exact fun _ => HCL.out.ext HXu.out, ?_⟩
                          refine plan_one rfl (fun K hK => ?_)
                          go_wp2_with fail
                          refine (ref12_open _ HSF.out.len HST.out.len (HSF.out.rd.ext HXu.out) HST.out.rd (by have := HLN.out; omega)).mono ?_
                          rintro e t3 ⟨hx, σ', rfl, hr⟩
                          have HPn := Lib.hid (PS.open (I := I) (m := 200 + 66 * (i + 1)) HQ69.out HTu.out (Lg.ext HC.out HGu.out hx) (fun b h => (HGu.out.2 b h).2) hx hr (Nat.le_trans (fl_al_le _ (sm12_app HSF.out.rd.1 HST.out.rd.1)) (by rw [List.length_append, HSF.out.len, HST.out.len]; have := HLN.out; omega)))
                          have HXn := Lib.hid (HXu.out.trans hx)
                          clear hx hr
                          go_wp2
                          refine ⟨fun _ => HCL.out.ext HXn.out, ?_⟩
                          refine plan_one rfl (fun K hK => ?_)
                          go_wp2
                          refine ⟨by first | exact HCL.out.ext HXn.out | exact fun _ => HCL.out.ext HXn.out, ?_⟩
                          refine plan_one rfl (fun K hK => ?_)
                          go_wp2
                          refine ⟨fun h => absurd h (by decide), ?_⟩
                          unfold wpPlan
                          go_wp2_with fail
                          go_meet
                          exact ⟨rfl, _, _, lb', σ', _, _, rfl, rfl, HPn.out, HXU.out.trans HXn.out⟩
                      · skip
                        have hx := (Ext.refl y0).alloc (.cells #[] 5)
                        have HQ80 := Lib.hid ((mine_empty y0).down (base' := u0.heap.size) HXa.out.size)
                        have HQ78 := Lib.hid (HXa.out.trans hx)
                        obtain ⟨b79, hb⟩ : ∃ b, y0.heap.size = b := ⟨_, rfl⟩
                        rw [hb] at HQ80
                        go_wp2
                        refine ⟨by first | exact HCL.out.ext HQ78.out | exact fun _ => HCL.out.ext HQ78.out, ?_⟩
                        try rw [hb]
                        clear hx hb
                        generalize y0.alloc (.cells #[] 5) = q77 at HQ80 HQ78 ⊢
                        refine plan_one rfl (fun K hK => ?_)
                        have HPq := Lib.hid (PS.ext HC.out HPU.out HQ78.out)
                        go_wp2_with fail
                        refine (lg_disk HC.out HPq.out.lg (Nat.le_trans HPq.out.len (by omega))).mono ?_
                        rintro e q82 ⟨hx, A2, m2, c2, B2, k2, d2, rfl, hs1, hs2⟩
                        have en : m1 = m2 := HSF.out.len.symm.trans hs1.len
                        have em : k1 = k2 := HSL.out.len.symm.trans hs2.len
                        subst en; subst em
                        have HQ83 := Lib.hid (HQ78.out.trans hx)
                        have HQ84 := Lib.hid (mine_ext HQ80.out hx)
                        have HQ85 := Lib.hid hs1
                        have HQ86 := Lib.hid hs2
                        clear hx hs1 hs2 HPq
                        go_wp2
                        refine ⟨by first | exact HCL.out.ext HQ83.out | exact fun _ => HCL.out.ext HQ83.out, ?_⟩
                        refine plan_one rfl (fun K hK => ?_)
                        go_wp2_with fail
                        refine (dk_write HC.out _ HQ85.out.len HQ86.out.len HM.out HQ85.out.rd HQ86.out.rd (HBR.out.ext (HX1.out.trans (HXU.out.trans HQ83.out))) (by have := HLN.out; omega) (by have := HLN.out; omega) (by omega)).mono ?_
                        rintro e q87 ⟨hx, A3, m3, c3, B3, k3, d3, rfl, hs1, hs2⟩
                        have en : m1 = m3 := HSF.out.len.symm.trans hs1.len
                        have em : k1 + m = k3 := by rw [← hs2.len, List.length_append, HSL.out.len, HM.out]
                        subst en; subst em
                        have HQ88 := Lib.hid (HQ83.out.trans hx)
                        have HQ89 := Lib.hid (mine_ext HQ84.out hx)
                        have HQ90 := Lib.hid (HQ85.out.ext hx)
                        have HQ91 := Lib.hid (HQ86.out.ext hx)
                        have HQ92 := Lib.hid hs1
                        have HQ93 := Lib.hid hs2
                        clear hx hs1 hs2
                        go_wp2
                        refine ⟨by first | exact HCL.out.ext HQ88.out | exact fun _ => HCL.out.ext HQ88.out, ?_⟩
                        refine plan_one rfl (fun K hK => ?_)
                        go_wp2_with fail
                        refine (lg_open HC.out _ HQ92.out.len HQ93.out.len HQ92.out.rd HQ93.out.rd (by have := HLN.out; omega)).mono ?_
                        rintro e q94 ⟨hx, lb', X', rfl, hg, hlo⟩
                        have HQ95 := Lib.hid (HQ88.out.trans hx)
                        have HQ97 := Lib.hid (show v1.heap.size ≤ q87.heap.size from Nat.le_trans HPU.out.b0 HQ88.out.size)
                        have HQ98 := Lib.hid (show q87.heap.size ≤ q94.heap.size from hx.size)
                        have HQ99 := Lib.hid (fun h (hh : X' h) => show h ≠ b79 from by have h1 := hlo h hh; have h2 := (HQ89.out.block b79 rfl).2; omega)
                        have HQ100 := Lib.hid (mine_ext HQ89.out hx)
                        have HQ101 := Lib.hid (HQ90.out.ext hx)
                        have HQ102 := Lib.hid (HQ91.out.ext hx)
                        have HQ103 := Lib.hid (HQ92.out.ext hx)
                        have HQ104 := Lib.hid (HQ93.out.ext hx)
                        have HQ96 := Lib.hid hg
                        clear hx hg hlo
                        go_wp2
                        refine ⟨by first | exact HCL.out.ext HQ95.out | exact fun _ => HCL.out.ext HQ95.out, ?_⟩
                        refine plan_one rfl (fun K hK => ?_)
                        go_wp2_with (at_builtin; refine wpList_append_new rfl (.tmp 128) (.tmp 133) rfl u0.heap.size b79 (fl (R.drop k)) rfl HQ100.out B1 k1 d1 rfl HSL.out.len (HSL.out.rd.ext HQ95.out) (by rw [HSL.out.len]; have := HLN.out; omega) HQ95.out.size ?_; intro vv t1 hm hx hq; obtain ⟨A5, n5, c5, ev, hst⟩ := hm.st HSL.out.rd.1; have en := HSL.out.len.symm.trans hst.len; subst en; subst ev; have HT5 := Lib.hid hm; have HXt := Lib.hid (HQ95.out.trans hx); have HGt := Lib.hid (Lg.ext HC.out HQ96.out hx); have HTt := Lib.hid (Nat.le_trans HQ98.out hx.size); have HNQ := Lib.hid (fun h (hh : X' h) (e : (Value.slice A5 k1 c5).ownBlock = some h) => show False from by have h1 := (HQ96.out.2 h hh).2; have h2 := HQ99.out h hh; rcases hq h e with h3 | h3 <;> omega); clear hm hx hq hst)
                        refine ⟨fun _ => HCL.out.ext HXt.out, ?_⟩
                        refine plan_one rfl (fun K hK => ?_)
                        go_wp2_with (at_builtin; refine wpList_append_rd rfl (.tmp 134) (.tmp 136) rfl u0.heap.size (.slice A5 k1 c5) (fl (R.drop k)) (obs l i) rfl HT5.out B m cb rfl HM.out (HBR.out.ext (HX1.out.trans (HXU.out.trans HXt.out))) (by rw [HSL.out.len, HM.out]; have := HLN.out; omega) HXt.out.size ?_; intro vv t2 hm hg _; have ho2 : Only (fun q => (Value.slice A5 k1 c5).ownBlock = some q) t1 t2 := Only.of_grown hg (fun q e => e); obtain ⟨A6, n6, c6, ev, hst⟩ := hm.st (sm12_app HSL.out.rd.1 HBR.out.1); have en : k1 + m = n6 := (by rw [← hst.len, List.length_append, HSL.out.len, HM.out]); subst en; subst ev; have HXu := Lib.hid (show Ext u0 t2 from HXt.out.more hg (fun q hq => (HT5.out.block q hq).1)); have HGu := Lib.hid (Lg.only HC.out HGt.out ho2 (fun h hh e => HNQ.out h hh e)); have HTu := Lib.hid (Nat.le_trans HTt.out ho2.size); have HST := Lib.hid hst; clear hm hg ho2 hst)
                        refine ⟨fun _ => HCL.out.ext HXu.out, ?_⟩
                        refine plan_one rfl (fun K hK => ?_)
                        go_wp2
                        refine ⟨by first | exact HCL.out.ext HXu.out | exact fun _ => HCL.out.ext HXu.out, ?_⟩
                        refine plan_one rfl (fun K hK => ?_)
                        go_wp2_with fail
                        refine (ref12_open _ HSF.out.len HST.out.len (HSF.out.rd.ext HXu.out) HST.out.rd (by have := HLN.out; omega)).mono ?_
                        rintro e t3 ⟨hx, σ', rfl, hr⟩
                        have HPn := Lib.hid (PS.open (I := I) (m := 200 + 66 * (i + 1)) HQ97.out HTu.out (Lg.ext HC.out HGu.out hx) (fun b h => (HGu.out.2 b h).2) hx hr (Nat.le_trans (fl_al_le _ (sm12_app HSF.out.rd.1 HST.out.rd.1)) (by rw [List.length_append, HSF.out.len, HST.out.len]; have := HLN.out; omega)))
                        have HXn := Lib.hid (HXu.out.trans hx)
                        clear hx hr
                        go_wp2
                        refine ⟨fun _ => HCL.out.ext HXn.out, ?_⟩
                        refine plan_one rfl (fun K hK => ?_)
                        go_wp2
                        refine ⟨by first | exact HCL.out.ext HXn.out | exact fun _ => HCL.out.ext HXn.out, ?_⟩
                        refine plan_one rfl (fun K hK => ?_)
                        go_wp2
                        refine ⟨fun h => absurd h (by decide), ?_⟩
                        unfold wpPlan
                        go_wp2_with fail
                        go_meet
                        exact ⟨rfl, _, _, lb', σ', _, _, rfl, rfl, HPn.out, HXU.out.trans HXn.out⟩
                    · have dk5 : (K0 == 5) = false := by simp; exact e5
                      go_wp2_with fail
                      go_meet
                      exact ⟨rfl, X, Y, lb, σ, R, k, rfl, rfl, HPU.out.more (by omega), HXU.out⟩
          case rest =>
            clear HPU HXU HOQ HOB HXO HGS HBX
            obtain ⟨rfl, X, Y, lb, σ, R, k, rfl, rfl, hps, hxc⟩ := hcut
            have HPS := Lib.hid hps
            have HXC := Lib.hid hxc
            clear hps hxc
            go_upto_region 23 with (fail)
            obtain ⟨A1, m1, c1, B1, k1, d1, V1, r1, e1, hrow, _, hsf, hsl, hrn, _, hrv, hlk⟩ := HPS.out.rl
            have HSF := Lib.hid hsf
            have HSL := Lib.hid hsl
            have HRN := Lib.hid hrn
            have HRV := Lib.hid hrv
            have HTR := Lib.hid (show Tri σ (.slice A1 m1 c1) (.slice B1 k1 d1) (.slice V1 r1 e1) wc from ⟨(log37_at hrow).1, (log37_at hrow).2.1, (log37_at hrow).2.2.1⟩)
            have HML := Lib.hid (show m1 ≤ 65536 ∧ k1 ≤ 65536 ∧ r1 ≤ 65536 from by
              have h1 := parts12_le R k
              have h2 := HPS.out.len
              have h3 := fl_len12 R
              have h4 := hsf.len
              have h5 := hsl.len
              omega)
            clear hrow hsf hsl hrn hrv hlk
            refine wp_region_plan (Tri σ (.slice A1 m1 c1) (.slice B1 k1 d1) (.slice V1 r1 e1)) [0, 1, 2, 3, 4, 5, 6, 7, 8, 9, 10, 11, 12, 13, 14, 15, 16, 17, 18, 19, 20, 21, 22, 23, 24, 25, 26, 27, 28, 29, 30, 31] (.yes 0 (.yes 1 (.yes 2 (.yes 3 (.yes 4 (.yes 5 (.yes 6 (.yes 7 (.yes 9 (.yes 10 (.yes 11 (.yes 12 (.one 8 (.one 13 (.one 14 (.one 15 (.one 16 (.yes 17 (.yes 19 (.yes 20 (.yes 21 (.yes 22 (.one 18 (.one 23 (.one 24 (.one 25 (.one 26 (.yes 27 (.yes 29 (.one 28 (.one 30 (.one 31 (.one 32 .done))))))))))))))))))))))))))))))))) (by kernel_rfl) (fun c a a' w e h => ⟨e ▸ h.1, h.2⟩) (by kernel_rfl) (HTR.out.ext ((Ext.refl wc).drew)) ?_
            have HXa := Lib.hid (show Ext wc wc.drew from (Ext.refl wc).drew)
            have HPa := Lib.hid (PS.ext HC.out HPS.out HXa.out)
            have HTa := Lib.hid (HTR.out.ext HXa.out)
            generalize wc.drew = y0 at HXa HPa HTa ⊢
            refine plan_yes rfl (fun K hK => ?_); go_simp; refine ⟨_, fun _ _ => rfl, hK _ ?_⟩; clear hK K
            refine plan_yes rfl (fun K hK => ?_); go_simp; refine ⟨_, fun _ _ => rfl, hK _ ?_⟩; clear hK K
            refine plan_yes rfl (fun K hK => ?_); go_simp; refine ⟨_, fun _ _ => rfl, hK _ ?_⟩; clear hK K
            refine plan_yes rfl (fun K hK => ?_); go_simp; refine ⟨_, fun _ _ => rfl, hK _ ?_⟩; clear hK K
            refine plan_yes rfl (fun K hK => ?_); go_simp; refine ⟨_, fun _ _ => rfl, hK _ ?_⟩; clear hK K
            refine plan_yes rfl (fun K hK => ?_); go_simp; refine ⟨_, fun _ _ => rfl, hK _ ?_⟩; clear hK K
            refine plan_yes rfl (fun K hK => ?_); go_simp; refine ⟨_, fun _ _ => rfl, hK _ ?_⟩; clear hK K
            refine plan_yes rfl (fun K hK => ?_); go_simp; refine ⟨_, fun _ _ => rfl, hK _ ?_⟩; clear hK K
            refine plan_yes rfl (fun K hK => ?_); go_simp; refine ⟨_, fun _ _ => rfl, hK _ ?_⟩; clear hK K
            refine plan_yes rfl (fun K hK => ?_); go_simp; refine ⟨_, fun _ _ => rfl, hK _ ?_⟩; clear hK K
            refine plan_yes rfl (fun K hK => ?_); go_simp; refine ⟨_, fun _ _ => rfl, hK _ ?_⟩; clear hK K
            refine plan_yes rfl (fun K hK => ?_); go_simp; refine ⟨.agg #[.slice A1 m1 c1, .slice B1 k1 d1], fun W hW => ?_, hK _ ?_⟩
            · obtain ⟨k0, k1, k2⟩ := hW
              go_simp
            clear hK K
            refine plan_one rfl (fun K hK => ?_)
            go_wp2_with fail
            refine (lg_disk HC.out HPa.out.lg (Nat.le_trans HPa.out.len (by omega))).mono ?_
            rintro e y1 ⟨hx, A2, m2, c2, B2, k2, d2, rfl, hs1, hs2⟩
            have en : m1 = m2 := HSF.out.len.symm.trans hs1.len
            have em : k1 = k2 := HSL.out.len.symm.trans hs2.len
            subst en; subst em
            have HXb := Lib.hid (HXa.out.trans hx)
            have HSD := Lib.hid (And.intro hs1.rd hs2.rd)
            clear hx hs1 hs2
            go_wp2
            refine ⟨fun _ => HTR.out.ext HXb.out, ?_⟩
            refine plan_one rfl (fun K hK => ?_)
            go_wp2_with fail
            refine (same12 _ HSF.out.len HSL.out.len HSD.out.1 HSD.out.2 (HSF.out.rd.ext HXb.out) (HSL.out.rd.ext HXb.out) HML.out.1 HML.out.2.1).mono ?_
            rintro e y2 ⟨rfl, hx⟩
            have HXc := Lib.hid (HXb.out.trans hx)
            clear hx
            go_wp2
            refine ⟨fun _ => HTR.out.ext HXc.out, ?_⟩
            refine plan_one rfl (fun K hK => ?_)
            go_wp2
            refine ⟨by first | exact HTR.out.ext HXc.out | exact fun _ => HTR.out.ext HXc.out, ?_⟩
            refine plan_one rfl (fun K hK => ?_)
            go_wp2
            refine ⟨by first | exact HTR.out.ext HXc.out | exact fun _ => HTR.out.ext HXc.out, ?_⟩
            refine plan_one rfl (fun K hK => ?_)
            go_wp2
            refine ⟨by first | exact HTR.out.ext HXc.out | exact fun _ => HTR.out.ext HXc.out, ?_⟩
            refine plan_yes rfl (fun K hK => ?_); go_simp; refine ⟨_, fun _ _ => rfl, hK _ ?_⟩; clear hK K
            refine plan_yes rfl (fun K hK => ?_); go_simp; refine ⟨_, fun _ _ => rfl, hK _ ?_⟩; clear hK K
            refine plan_yes rfl (fun K hK => ?_); go_simp; refine ⟨_, fun _ _ => rfl, hK _ ?_⟩; clear hK K
            refine plan_yes rfl (fun K hK => ?_); go_simp; refine ⟨_, fun _ _ => rfl, hK _ ?_⟩; clear hK K
            refine plan_yes rfl (fun K hK => ?_); go_simp; refine ⟨.slice V1 r1 e1, fun W hW => ?_, hK _ ?_⟩
            · obtain ⟨k0, k1, k2⟩ := hW
              go_simp
            clear hK K
            refine plan_one rfl (fun K hK => ?_)
            have HPc := Lib.hid (PS.ext HC.out HPS.out HXc.out)
            go_wp2_with fail
            refine (lg_records HC.out HPc.out.lg (Nat.le_trans HPc.out.len (by omega))).mono ?_
            rintro e y3 ⟨hx, V3, r3, e3, rfl, hn3, _, hr3, _⟩
            have en : r1 = r3 := HRN.out.symm.trans hn3
            subst en
            have HXd := Lib.hid (HXc.out.trans hx)
            have HR3 := Lib.hid hr3
            clear hx hn3 hr3
            go_wp2
            refine ⟨fun _ => HTR.out.ext HXd.out, ?_⟩
            refine plan_one rfl (fun K hK => ?_)
            go_wp2_with fail
            refine (lists_n _ HRN.out HR3.out (HRV.out.reads.ext HXd.out) HML.out.2.2 (fun j hj => by have := ok_len HPS.out.rl.lok j (by rw [HRN.out]; exact hj); omega)).mono ?_
            rintro e y4 ⟨rfl, q, rfl⟩
            have HXe := Lib.hid (HXd.out.drewN q)
            go_wp2
            refine ⟨by first | exact HTR.out.ext HXe.out | exact fun _ => HTR.out.ext HXe.out, ?_⟩
            refine plan_one rfl (fun K hK => ?_)
            go_wp2
            refine ⟨by first | exact HTR.out.ext HXe.out | exact fun _ => HTR.out.ext HXe.out, ?_⟩
            refine plan_one rfl (fun K hK => ?_)
            go_wp2
            refine ⟨by first | exact HTR.out.ext HXe.out | exact fun _ => HTR.out.ext HXe.out, ?_⟩
            refine plan_one rfl (fun K hK => ?_)
            go_wp2
            refine ⟨by first | exact HTR.out.ext HXe.out | exact fun _ => HTR.out.ext HXe.out, ?_⟩
            refine plan_yes rfl (fun K hK => ?_); go_simp; refine ⟨_, fun _ _ => rfl, hK _ ?_⟩; clear hK K
            refine plan_yes rfl (fun K hK => ?_); go_simp; refine ⟨_, fun _ _ => rfl, hK _ ?_⟩; clear hK K
            refine plan_one rfl (fun K hK => ?_)
            have HPe := Lib.hid (PS.ext HC.out HPS.out HXe.out)
            go_wp2_with fail
            refine (lg_fast HC.out HPe.out.lg).mono ?_
            rintro e y5 ⟨rfl, hx⟩
            have HXf := Lib.hid (HXe.out.trans hx)
            clear hx
            go_wp2
            refine ⟨fun _ => HTR.out.ext HXf.out, ?_⟩
            refine plan_one rfl (fun K hK => ?_)
            have HPf := Lib.hid (PS.ext HC.out HPS.out HXf.out)
            go_wp2_with fail
            refine (ref12_fast _ HPf.out.rl (Nat.le_trans HPf.out.len (by omega))).mono ?_
            rintro e y6 ⟨rfl, hx⟩
            have HXg := Lib.hid (HXf.out.trans hx)
            clear hx
            go_wp2
            refine ⟨by first | exact HTR.out.ext HXg.out | exact fun _ => HTR.out.ext HXg.out, ?_⟩
            refine plan_one rfl (fun K hK => ?_)
            go_wp2
            refine ⟨by first | exact HTR.out.ext HXg.out | exact fun _ => HTR.out.ext HXg.out, ?_⟩
            refine plan_one rfl (fun K hK => ?_)
            go_wp2
            refine ⟨fun h => absurd h (by decide), ?_⟩
            unfold wpPlan
            have HPZ := Lib.hid (PS.ext HC.out HPS.out HXg.out)
            have HXZ := Lib.hid HXg.out
            have HVZ := Lib.hid (HXC.out.trans HXZ.out)
            clear HTR HSF HSL HRN HRV HML HTa HPa HXa HXb HSD HXc HPc HXd HR3 HXe HPe HXf HPf HXg HXZ HXC
            go_wp2
            go_roundg gk
            case measure => omega
            case rel => exact ⟨i + 1, X, Y, lb, σ, R, k, by have := HIG.out; omega, by go_num, rfl, rfl, HPZ.out, HVZ.out⟩
  · skip
    clear hf hl hn rf rl ro
    by_cases qa : 100 < nf
    · have d1 : decide (100 < (nf : Int)) = true := decide_eq_true (by omega)
      have h1 : 100 < (nf : Int) := by omega
      clear hbig qa hca hcb hce
      go_enter Try.func3, Try.ntmps3
      go_wp2_with fail
      obtain ⟨g0, hg0⟩ : ∃ g, w.heap.size = g := ⟨_, rfl⟩
      rw [hg0] at HT0 ⊢
      clear hg0
      generalize w.alloc (.cells #[.slice A nf ca, .slice B nl cb] 24) = w0 at HX0 HT0 ⊢
      refine (HAW.out w0).mono ?_
      rintro e v1 ⟨rfl, hv1⟩
      have HX1 := Lib.hid (HX0.out.trans hv1)
      obtain ⟨k0, k1⟩ := HT0.out.ext hv1
      clear hv1
      go_wp2_with fail
      refine (HFW.out _ HX1.out).mono ?_
      rintro e v2 ⟨v, rfl, rfl, hv1, hv2⟩
      clear hv1 hv2
      cases v <;>
      · go_wp2_with fail
        refine (HAW.out v1).mono ?_
        rintro e v3 ⟨rfl, hv3⟩
        have HX3 := Lib.hid (HX1.out.trans hv3)
        clear hv3 k0 k1
        go_wp2
        go_ret
        exact ⟨rfl, HX3.out⟩
    · have d1 : decide (100 < (nf : Int)) = false := decide_eq_false (by omega)
      have h1 : ¬ 100 < (nf : Int) := by omega
      have d2 : decide (100 < (nl : Int)) = true := decide_eq_true (by omega)
      have h2 : 100 < (nl : Int) := by omega
      clear hbig qa hca hcb hce
      go_enter Try.func3, Try.ntmps3
      go_wp2_with fail
      obtain ⟨g0, hg0⟩ : ∃ g, w.heap.size = g := ⟨_, rfl⟩
      rw [hg0] at HT0 ⊢
      clear hg0
      generalize w.alloc (.cells #[.slice A nf ca, .slice B nl cb] 24) = w0 at HX0 HT0 ⊢
      refine (HAW.out w0).mono ?_
      rintro e v1 ⟨rfl, hv1⟩
      have HX1 := Lib.hid (HX0.out.trans hv1)
      obtain ⟨k0, k1⟩ := HT0.out.ext hv1
      clear hv1
      go_wp2_with fail
      refine (HFW.out _ HX1.out).mono ?_
      rintro e v2 ⟨v, rfl, rfl, hv1, hv2⟩
      clear hv1 hv2
      cases v <;>
      · go_wp2_with fail
        refine (HAW.out v1).mono ?_
        rintro e v3 ⟨rfl, hv3⟩
        have HX3 := Lib.hid (HX1.out.trans hv3)
        clear hv3 k0 k1
        go_wp2
        go_ret
        exact ⟨rfl, HX3.out⟩
end Go.Proofs.Ytfbnckecfapakaa

/-
  What remainders of layer 9 does: of each four bits what dividing them leaves. Conditions: none.
-/
namespace Go.Proofs.Ytfbnckecfapakaa
open Go.RowKit
open Pol (co Sm)

/-- Numbers of 32 bits as cells, by a function of the place. -/
def dt (n : Nat) (f : Nat → Nat) : Array Value := Array.ofFn (n := n) fun i => Value.int .u32 ((f i.val : Nat) : Int)
theorem dt_size (n : Nat) (f : Nat → Nat) : (dt n f).size = n := by simp [dt]
theorem dt_at (n : Nat) (f : Nat → Nat) (i : Nat) (h : i < n) : (dt n f)[i]? = some (.int .u32 ((f i : Nat) : Int)) := by simp [dt, h]
theorem dt_set (n : Nat) (f : Nat → Nat) (k v : Nat) : (dt n f).setIfInBounds k (.int .u32 (v : Int)) = dt n (upd f k v) := by
  apply Array.ext (by simp [dt])
  intro i h1 h2
  have hi : i < (dt n f).size := by simpa using h1
  rw [Array.getElem_setIfInBounds hi]
  simp only [dt, Array.getElem_ofFn, upd]
  by_cases e : k = i
  · subst e; simp
  · rw [if_neg e, if_neg (fun h => e h.symm)]
theorem dt_congr (n : Nat) {f g : Nat → Nat} (h : ∀ i, i < n → f i = g i) : dt n f = dt n g := by
  apply Array.ext (by simp [dt])
  intro i h1 h2
  have hi : i < n := by simpa [dt] using h1
  simp only [dt, Array.getElem_ofFn, h i hi]
/-- The block of a table of sixteen. -/
def TBk (w : World) (g : Nat) (f : Nat → Nat) : Prop := w.heap[g]? = some (.cells (dt 16 f) 81 (0, 0))
theorem TBk.cell {w : World} {g : Nat} {f : Nat → Nat} (h : TBk w g f) (i : Nat) (hi : i < 16) : w.cell? ⟨g, i, none⟩ = some (.int .u32 ((f i : Nat) : Int)) := by rw [cell_of_row w g i _ _ _ h, dt_at 16 f i hi]
theorem TBk.frozen {w : World} {g : Nat} {f : Nat → Nat} (h : TBk w g f) (i : Nat) : w.frozen? ⟨g, i, none⟩ = false := frozen_of_row w g i _ _ h
theorem TBk.store {w : World} {g : Nat} {f : Nat → Nat} (h : TBk w g f) (k v : Nat) : TBk (w.setCell ⟨g, k, none⟩ (.int .u32 (v : Int))) g (upd f k v) := by
  unfold TBk
  rw [heap_setCell_same w g k _ _ _ h, dt_set]
theorem TBk.congr {w : World} {g : Nat} {f f' : Nat → Nat} (h : TBk w g f) (hf : ∀ i, i < 16 → f i = f' i) : TBk w g f' := by
  unfold TBk at *
  rw [h, dt_congr 16 hf]
theorem TBk.lt {w : World} {g : Nat} {f : Nat → Nat} (h : TBk w g f) : g < w.heap.size := by
  rcases Nat.lt_or_ge g w.heap.size with hlt | hge
  · exact hlt
  · unfold TBk at h; rw [Array.getElem?_eq_none hge] at h; cases h
theorem TBk.ext {w w' : World} {g : Nat} {f : Nat → Nat} (h : TBk w g f) (hx : Ext w w') : TBk w' g f := (hx.below.block g h.lt).trans h
theorem zero_table : (∀ w, (zeroValue 81).run Try.prog w = .ok (.agg (dt 16 fun _ => 0)) w) ∧ (Try.prog.info? 81).map (·.size) = some 16 := by
  have e : dt 16 (fun _ => 0) = Array.replicate 16 (.int .u32 0) := by
    apply Array.ext (by simp [dt])
    intro i h1 h2
    simp [dt]
  rw [e]
  exact zero_of_info (by kernel_rfl)
theorem crz_mul (d : Nat) : crz d = d / 2 ^^^ (d % 2 * 3988292384) := by
  unfold crz
  split
  · rename_i h; rw [h, Nat.zero_mul, Nat.xor_zero]
  · rename_i h; rw [show d % 2 = 1 by omega, Nat.one_mul]
theorem dt_one (n : Nat) (f : Nat → Nat) : (dt n f).all (·.oneCell') = true := by
  rw [Array.all_eq_true]; intro i h; simp [dt, Value.oneCell']
theorem info16 (f : Nat → Nat) : (Try.prog.info? 81).map (·.size) = some (dt 16 f).size := by rw [dt_size]; exact zero_table.2
/-- The table as far as it is filled. -/
def rt (k : Nat) : Nat → Nat := fun i => if i < k then czn 4 i else 0
theorem rt_zero : dt 16 (rt 0) = #[.int .u32 0, .int .u32 0, .int .u32 0, .int .u32 0, .int .u32 0, .int .u32 0, .int .u32 0, .int .u32 0, .int .u32 0, .int .u32 0, .int .u32 0, .int .u32 0, .int .u32 0, .int .u32 0, .int .u32 0, .int .u32 0] := by
  have e : dt 16 (rt 0) = Array.replicate 16 (.int .u32 0) := by
    apply Array.ext (by simp [dt])
    intro i h1 h2
    simp [dt, rt]
  rw [e]
  rfl
theorem rt_succ (k i : Nat) : upd (rt k) k (czn 4 k) i = rt (k + 1) i := by
  unfold upd rt
  by_cases h : i = k
  · subst h; rw [if_pos rfl, if_pos (by omega)]
  · rw [if_neg h]
    by_cases h2 : i < k
    · rw [if_pos h2, if_pos (by omega)]
    · rw [if_neg h2, if_neg (by omega)]

set_option maxHeartbeats 800000 in
set_option maxRecDepth 100000 in
theorem cr_remainders (w : World) : Calls Try.prog 47 #[] w (Tells (.agg (dt 16 fun i => czn 4 i)) w) := by
  have HZ := Lib.hid rt_zero
  go_enter Try.func47, Try.ntmps47
  go_wp2
  go_loopg [6] 16 (fun g s wx => ∃ k : Nat, k + g = 16 ∧ s = .int .i64 (k : Int) ∧ TBk wx w.heap.size (rt 0) ∧ TBk wx (w.heap.size + 1) (rt k) ∧ Ext w wx)
  case atStart =>
    refine ⟨0, by omega, rfl, ?_, ?_, ((Ext.refl w).alloc _).alloc _⟩
    · unfold TBk; rw [HZ.out]; exact (heap_alloc_old (w.alloc _) _ (r := w.heap.size) (by simp)).trans (heap_alloc_new w _)
    · unfold TBk; rw [HZ.out]; have h := heap_alloc_new (w.alloc (.cells (dt 16 (rt 0)) 81)) (.cells (dt 16 (rt 0)) 81)
      rw [show (w.alloc (.cells (dt 16 (rt 0)) 81)).heap.size = w.heap.size + 1 from by simp, HZ.out] at h
      exact h
  case round =>
    obtain ⟨k, hkg, rfl, h0, h1, hx⟩ := hrel
    have H0 := Lib.hid h0
    have H1 := Lib.hid h1
    have HX := Lib.hid hx
    clear h0 h1 hx
    cases gk with
    | zero =>
      have hk16 : k = 16 := by omega
      have hkI : ¬ (k : Int) < 16 := by omega
      have d1 : decide ((k : Int) < 16) = false := decide_eq_false hkI
      have hg : wr.heap[w.heap.size + 1]? = some (.cells (dt 16 (rt k)) 81 (0, 0)) := H1.out
      rw [dt_congr 16 (f := rt k) (g := fun i => czn 4 i) (fun i hi => if_pos (by omega))] at hg
      have hin := info16 (fun i => czn 4 i)
      have hsz : (dt 16 (rt 0)).size = (dt 16 fun i => czn 4 i).size := by rw [dt_size, dt_size]
      have hon := dt_one 16 (fun i => czn 4 i)
      generalize hV : (dt 16 fun i => czn 4 i) = V at *
      have hg3 := setRow_heap wr w.heap.size _ V _ _ H0.out
      have HG0 := Lib.hid (show wr.heap[w.heap.size]? = some (.cells (dt 16 (rt 0)) 81 (0, 0)) from H0.out)
      have HVE := Lib.hid hV
      have HG := Lib.hid hg
      have HIN := Lib.hid hin
      have HSZ := Lib.hid hsz
      have HON := Lib.hid hon
      have HG3 := Lib.hid hg3
      have HX3 := Lib.hid (HX.out.setRow (Nat.le_refl _) V)
      clear hkg hk16 hg hin hsz hon hg3 hV
      go_wp2_with (first | (with_reducible refine wpList_load_row rfl 81 (.tmp 1) rfl (w.heap.size + 1) rfl 81 V (0, 0) _ HG.out Try.underlying81 rfl HIN.out ?_) | (with_reducible refine wpList_store_all rfl 81 (.tmp 0) (.tmp 25) rfl w.heap.size (dt 16 (rt 0)) V rfl rfl HG0.out HIN.out HSZ.out HON.out ?_))
      exact ⟨rfl, .agg V, results_cell_row Try.results47 _ _ w.heap.size 81 V (0, 0) _ rfl HG3.out Try.underlying81 rfl HIN.out, by rw [HVE.out], HX3.out⟩
    | succ g =>
      have hk : k < 16 := by omega
      have hkI : (k : Int) < 16 := by omega
      have HKG := Lib.hid hkg
      clear hkg
      obtain ⟨wo, hwo⟩ : ∃ wo, wo = wr := ⟨_, rfl⟩
      subst hwo
      go_wp2
      go_loopg [3, 11] 4 (fun g s3 s11 wx => ∃ j d : Nat, j + g = 4 ∧ s3 = .int .u32 (d : Int) ∧ s11 = .int .i64 (j : Int) ∧ d = czn j k ∧ wx = wo)
      case atStart => exact ⟨0, k, by omega, by go_num, rfl, rfl, rfl⟩
      case round =>
        obtain ⟨j, d, hjg, rfl, rfl, hd, rfl⟩ := hrel
        have hd32 : d < 4294967296 := by rw [hd]; exact czn_lt j (by omega)
        cases gk with
        | zero =>
          have hj4 : j = 4 := by omega
          have hjI : ¬ (j : Int) < 4 := by omega
          have d1 : decide ((j : Int) < 4) = false := decide_eq_false hjI
          rw [hj4] at hd
          have hfz := H1.out.frozen k
          have hc := H1.out.cell k hk
          have H0' := Lib.hid (show TBk (wr.setCell ⟨w.heap.size + 1, k, none⟩ (.int .u32 (d : Int))) w.heap.size (rt 0) from (heap_setCell_other wr ⟨w.heap.size + 1, k, none⟩ w.heap.size _ (by simp)).trans H0.out)
          have H1' := Lib.hid (show TBk (wr.setCell ⟨w.heap.size + 1, k, none⟩ (.int .u32 (d : Int))) (w.heap.size + 1) (rt (k + 1)) from by
            have h := H1.out.store k d
            rw [hd] at h ⊢
            exact h.congr (fun i _ => rt_succ k i))
          have HX' := Lib.hid (HX.out.setCell (p := ⟨w.heap.size + 1, k, none⟩) (by simp) (.int .u32 (d : Int)))
          clear hd hjg hj4
          go_wp2
          go_roundg g
          case measure => omega
          case rel => exact ⟨k + 1, by have := HKG.out; omega, by go_num, H0'.out, H1'.out, HX'.out⟩
        | succ g2 =>
          have hj : j < 4 := by omega
          have hjI : (j : Int) < 4 := by omega
          obtain ⟨u, hu⟩ : ∃ u, d % 2 = u := ⟨_, rfl⟩
          obtain ⟨h, hh⟩ : ∃ h, d / 2 = h := ⟨_, rfl⟩
          obtain ⟨p, hp⟩ : ∃ p, u * 3988292384 = p := ⟨_, rfl⟩
          obtain ⟨X, hX⟩ : ∃ X, h ^^^ p = X := ⟨_, rfl⟩
          have hu2 : u < 2 := by omega
          have hp32 : p < 4294967296 := by omega
          have HN := Lib.hid (show X = czn (j + 1) k from by rw [czn_succ, ← hd, crz_mul, hu, hh, hp, hX])
          have da : bits .and .u32 (d : Int) 1 = (u : Int) := by rw [← hu, ← Nat.and_one_is_mod]; exact u32_and_nat d 1 hd32 (by decide)
          have ds : (d : Int).tdiv 2 = (h : Int) := by rw [Int.tdiv_eq_ediv_of_nonneg (by omega)]; omega
          have ds' : (d : Int) / 2 = (h : Int) := by omega
          have dm : (u : Int) * 3988292384 = (p : Int) := by omega
          have hh32 : h < 4294967296 := by omega
          have dx : bits .xor .u32 (h : Int) (p : Int) = (X : Int) := by rw [← hX]; exact u32_xor_nat h p hh32 hp32
          have hX32 : X < 4294967296 := by rw [HN.out]; exact czn_lt _ (by omega)
          clear hd hu hh hp hX
          go_wp2
          go_roundg g2
          case measure => omega
          case rel => exact ⟨j + 1, X, by omega, by go_num, by go_num, HN.out, rfl⟩
end Go.Proofs.Ytfbnckecfapakaa

/-
  What More and Of of layer 9 do: the bytes' state by groups of four bits. Conditions: no more than 2^16 bytes.
-/
namespace Go.Proofs.Ytfbnckecfapakaa
open Go.RowKit
open Pol (co Sm)

/-- By a table of sixteen: four bits at once. -/
theorem czn_nib (r : Nat) : czn 4 r = r / 16 ^^^ czn 4 (r % 16) := by
  have h2 : r = 2 ^ 4 * (r / 16) ^^^ r % 16 := by
    rw [← add_xor 4 _ _ (Nat.mod_lt _ (by decide)), show (2 : Nat) ^ 4 = 16 from rfl]
    omega
  conv => lhs; rw [h2]
  rw [czn_lin, czn_pow]
theorem czn_four (r m : Nat) : czn (4 * (m + 1)) r = czn (4 * m) r / 16 ^^^ czn 4 (czn (4 * m) r % 16) := by
  rw [Nat.mul_succ, czn_add, czn_nib]
theorem not_u32 {x : Nat} (h : x < 4294967296) : bits .xor .u32 IntKind.u32.max (x : Int) = ((x ^^^ 4294967295 : Nat) : Int) := by
  have h1 := u32_xor_nat 4294967295 x (by decide) h
  rw [Nat.xor_comm] at h1
  exact h1

set_option maxHeartbeats 1600000 in
set_option maxRecDepth 100000 in
theorem cr_more (s : Nat) (l : List Nat) (A : Option Addr) (ca : Nat) (w : World) (hs : s < 4294967296) (hr : Rd w A l) (hl : l.length ≤ 65536) :
    Calls Try.prog 46 #[.int .u32 (s : Int), .slice A l.length ca] w (Tells (.int .u32 ((crf (s ^^^ 4294967295) (co l) l.length ^^^ 4294967295 : Nat) : Int)) w) := by
  obtain ⟨s0, hs0⟩ : ∃ s0, s ^^^ 4294967295 = s0 := ⟨_, rfl⟩
  have hs32 : s0 < 4294967296 := by rw [← hs0]; exact Nat.xor_lt_two_pow (n := 32) hs (by decide)
  have hs1 : bits .xor .u32 IntKind.u32.max (s : Int) = (s0 : Int) := by rw [not_u32 hs, hs0]
  rw [hs0]
  obtain ⟨n, hn⟩ : ∃ n, l.length = n := ⟨_, rfl⟩
  have HCR := Lib.hid (fun j => crf_lt (c := s0) (f := co l) hs32 hr.1 j)
  have HSM := Lib.hid hr.1
  have HR := Lib.hid hr
  have HN := Lib.hid hn
  obtain ⟨V, hV⟩ : ∃ V, crf s0 (co l) n ^^^ 4294967295 = V := ⟨_, rfl⟩
  rw [hn] at hl ⊢
  rw [hV]
  have HV := Lib.hid (show bits .xor .u32 IntKind.u32.max ((crf s0 (co l) n : Nat) : Int) = (V : Int) from by rw [not_u32 (HCR.out n), hV])
  have HRM := Lib.hid (cr_remainders w)
  clear hr hs0 hn hV
  go_enter Try.func46, Try.ntmps46
  go_wp2_with fail
  refine HRM.out.mono ?_
  rintro e w1 ⟨rfl, hx1⟩
  have hz := zero_table.1
  have h0 := heap_alloc_new w1 (.cells (dt 16 fun _ => 0) 81)
  have hx2 := hx1.alloc (.cells (dt 16 fun _ => 0) 81)
  have hin := info16 (fun i => czn 4 i)
  have hsz : (dt 16 fun _ => 0).size = (dt 16 fun i => czn 4 i).size := by rw [dt_size, dt_size]
  have hon := dt_one 16 (fun i => czn 4 i)
  have ht := fun (w : World) (g : Nat) (h : w.heap[g]? = some (.cells (dt 16 fun i => czn 4 i) 81 (0, 0))) => (show TBk w g (fun i => czn 4 i) from h)
  generalize (dt 16 fun i => czn 4 i) = V2 at *
  have hb := ht _ _ (setRow_heap _ _ _ V2 _ _ h0)
  have hx3 := hx2.setRow (g := w1.heap.size) hx1.size V2
  obtain ⟨w2, hw2⟩ : ∃ w2, (w1.alloc (Obj.cells (dt 16 fun _ => 0) 81)).setRow w1.heap.size V2 = w2 := ⟨_, rfl⟩
  rw [hw2] at hb hx3
  have HW2 := Lib.hid hw2
  have HG0 := Lib.hid h0
  have HIN := Lib.hid hin
  have HSZ := Lib.hid hsz
  have HON := Lib.hid hon
  have HB := Lib.hid hb
  have HX := Lib.hid hx3
  clear hw2 h0 hx1 hx2 hin hsz hon ht hb hx3
  go_wp2_with (first | (with_reducible refine wpList_alloc_zero rfl 81 rfl (dt 16 fun _ => 0) hz ?_) | (with_reducible refine wpList_store_all rfl 81 (.tmp 5) (.tmp 10) rfl w1.heap.size (dt 16 fun _ => 0) V2 rfl rfl HG0.out HIN.out HSZ.out HON.out ?_; rw [HW2.out]))
  clear hz
  clear hs1
  generalize w1.heap.size = tb at HB ⊢
  have HR2 := Lib.hid (HR.out.ext HX.out)
  go_loopg [6, 15] n (fun g s6 s15 wx => ∃ j c : Nat, j + g = n ∧ c = crf s0 (co l) j ∧ s6 = .int .u32 (c : Int) ∧ s15 = .int .i64 (j : Int) ∧ w2 = wx)
  case atStart => exact ⟨0, s0, by omega, rfl, rfl, rfl, rfl⟩
  case round =>
    obtain ⟨j, c, hjg, hc, rfl, rfl, rfl⟩ := hrel
    have hc32 : c < 4294967296 := by rw [hc]; exact HCR.out j
    cases gk with
    | zero =>
      have hjn : j = n := by omega
      have hv : bits .xor .u32 IntKind.u32.max (c : Int) = (V : Int) := by rw [hc, hjn]; exact HV.out
      have hjI : ¬ (j : Int) < (n : Int) := by omega
      have d1 : decide ((j : Int) < (n : Int)) = false := decide_eq_false hjI
      clear hc hjg hjn
      go_wp2
      go_ret
      exact ⟨rfl, HX.out⟩
    | succ g =>
      have hj : j < n := by omega
      have hjI : (j : Int) < (n : Int) := by omega
      obtain ⟨b0, o, rfl, hcb⟩ := HR2.out.2 j (by rw [HN.out]; exact hj)
      have hb256 : co l j < 256 := HSM.out j
      have hb32 : co l j < 4294967296 := by omega
      obtain ⟨x, hx⟩ : ∃ x, c ^^^ co l j = x := ⟨_, rfl⟩
      have HC := Lib.hid (show crf s0 (co l) (j + 1) = czn (4 * 2) x from by
        rw [crf, ← hc, hx])
      have hx32 : x < 4294967296 := by rw [← hx]; exact Nat.xor_lt_two_pow (n := 32) hc32 hb32
      obtain ⟨b, hb⟩ : ∃ b, co l j = b := ⟨_, rfl⟩
      rw [hb] at hcb hb256 hb32 hx
      have q1 : IntKind.u32.wrap (b : Int) = (b : Int) := by rw [IntKind.wrap_u32]; omega
      have ex : bits .xor .u32 (c : Int) (b : Int) = (x : Int) := by rw [← hx]; exact u32_xor_nat c b hc32 hb32
      have HJG := Lib.hid hjg
      clear hc hb hjg hx
      go_wp2
      go_loopg [6, 23] 2 (fun g s6 s23 wx => ∃ m r : Nat, m + g = 2 ∧ r = czn (4 * m) x ∧ s6 = .int .u32 (r : Int) ∧ s23 = .int .i64 (m : Int) ∧ w2 = wx)
      case atStart => exact ⟨0, x, by omega, rfl, rfl, rfl, rfl⟩
      case round =>
        obtain ⟨m, r, hmg, hr, rfl, rfl, rfl⟩ := hrel
        have hr32 : r < 4294967296 := by rw [hr]; exact czn_lt _ hx32
        cases gk with
        | zero =>
          have hm2 : m = 2 := by omega
          have hmI : ¬ (m : Int) < 2 := by omega
          have d1 : decide ((m : Int) < 2) = false := decide_eq_false hmI
          have HF := Lib.hid (show r = crf s0 (co l) (j + 1) from by rw [HC.out, hr, hm2])
          clear hr hmg hm2
          go_wp2
          go_roundg g
          case measure => omega
          case rel => exact ⟨j + 1, r, by have := HJG.out; omega, HF.out, rfl, by go_num, rfl⟩
        | succ g2 =>
          have hm : m < 2 := by omega
          have hmI : (m : Int) < 2 := by omega
          obtain ⟨u, hu⟩ : ∃ u, r % 16 = u := ⟨_, rfl⟩
          obtain ⟨h, hh⟩ : ∃ h, r / 16 = h := ⟨_, rfl⟩
          obtain ⟨p, hp⟩ : ∃ p, czn 4 u = p := ⟨_, rfl⟩
          obtain ⟨X, hX⟩ : ∃ X, h ^^^ p = X := ⟨_, rfl⟩
          have hu16 : u < 16 := by omega
          have huI : (u : Int) < 16 := by omega
          have hp32 : p < 4294967296 := by rw [← hp]; exact czn_lt 4 (by omega)
          have hct := HB.out.cell u hu16
          rw [hp] at hct
          have HN2 := Lib.hid (show X = czn (4 * (m + 1)) x from by rw [czn_four, ← hr, hu, hh, hp, hX])
          have hh32 : h < 4294967296 := by omega
          have e1 : (r : Int).tmod 16 = (u : Int) := by rw [Int.tmod_eq_emod_of_nonneg (by omega)]; omega
          have e1' : (r : Int) % 16 = (u : Int) := by omega
          have e2 : (r : Int).tdiv 16 = (h : Int) := by rw [Int.tdiv_eq_ediv_of_nonneg (by omega)]; omega
          have e2' : (r : Int) / 16 = (h : Int) := by omega
          have dx : bits .xor .u32 (h : Int) (p : Int) = (X : Int) := by rw [← hX]; exact u32_xor_nat h p hh32 hp32
          clear hr hu hh hp hX
          go_wp2
          go_roundg g2
          case measure => omega
          case rel => exact ⟨m + 1, X, by omega, HN2.out, by go_num, by go_num, rfl⟩
theorem cr_of (l : List Nat) (A : Option Addr) (ca : Nat) (w : World) (hr : Rd w A l) (hl : l.length ≤ 65536) :
    Calls Try.prog 44 #[.slice A l.length ca] w (Tells (.int .u32 ((crcl l : Nat) : Int)) w) := by
  have HM := Lib.hid (cr_more 0 l A ca w (by decide) hr hl)
  rw [Nat.zero_xor] at HM
  obtain ⟨v, hv⟩ : ∃ v, crcl l = v := ⟨_, rfl⟩
  rw [show crf 4294967295 (co l) l.length ^^^ 4294967295 = crcl l from rfl, hv] at HM
  rw [hv]
  clear hr hl hv
  go_enter Try.func44, Try.ntmps44
  go_wp2_with fail
  refine HM.out.mono ?_
  rintro e w1 ⟨rfl, hx1⟩
  have HX := Lib.hid hx1
  clear hx1
  go_wp2
  go_ret
  exact ⟨rfl, HX.out⟩
end Go.Proofs.Ytfbnckecfapakaa

/-
  What bytes.Clone does. Conditions: no more than 2^16 bytes.
-/
namespace Go.Proofs.Ytfbnckecfapakaa
open Go.RowKit
open Pol (co Sm)

/-- Bytes of a call's own that read as these. -/
def CloneS (t : List Nat) (w : World) (e : Ending) (w' : World) : Prop := Ext w w' ∧ ∃ v, e = .returned v ∧ Mine w' w.heap.size v t
set_option maxHeartbeats 800000 in
set_option maxRecDepth 100000 in
theorem cr_clone (t : List Nat) (A : Option Addr) (c : Nat) (w : World) (hr : Rd w A t) (hl : t.length ≤ 65536) : Calls Try.prog 39 #[.slice A t.length c] w (CloneS t w) := by
  unfold CloneS
  have HR := Lib.hid hr
  obtain ⟨n, hn⟩ : ∃ n, t.length = n := ⟨_, rfl⟩
  have HN := Lib.hid hn
  rw [hn] at hl ⊢
  have qn : ∀ (W : World) (B : Option Addr) (n c : Nat), (binOp .eql 22 (.slice B n c) (.slice none 0 0)).run Try.prog W = .ok (.bool B.isNone) W := fun W B n c => Lib.run_eql_slice_nil W _ _ B n c 0 0 Try.underlying22
  cases A with
  | none =>
    have ht : t = [] := by
      rcases Nat.eq_zero_or_pos t.length with h | h
      · exact List.eq_nil_of_length_eq_zero h
      · obtain ⟨_, _, e, _⟩ := hr.2 0 h; cases e
    have HT := Lib.hid ht
    clear hr hn ht
    go_enter Try.func39, Try.ntmps39
    go_wp2
    skip
    go_ret
    exact ⟨Ext.refl _, _, rfl, by rw [HT.out]; exact Mine.nil _ _⟩
  | some a =>
    have hx := (Ext.refl w).alloc (.cells #[] 5)
    have HX := Lib.hid hx
    have HM := Lib.hid (mine_empty w)
    clear hr hn hx
    go_enter Try.func39, Try.ntmps39
    go_wp2_with (at_builtin; refine wpList_append_rd rfl (.tmp 5) (.tmp 6) rfl w.heap.size (.slice (some ⟨w.heap.size, 0, none⟩) 0 0) [] t rfl HM.out (some a) n c rfl HN.out (HR.out.ext HX.out) (by rw [HN.out]; simp; omega) HX.out.size ?_; intro v' w3 hown' hg' hat'; rw [List.nil_append] at hown'; have HM2 := Lib.hid hown'; have HX2 := Lib.hid (HX.out.more hg' (fun k e => (HM.out.block k e).1)); clear hown' hg' hat')
    go_ret
    exact ⟨HX2.out, _, rfl, HM2.out⟩
end Go.Proofs.Ytfbnckecfapakaa

/-
  What fits, header of layer 9 and bytes.Clone do. Conditions: no more than 2^16 bytes for header.
-/
namespace Go.Proofs.Ytfbnckecfapakaa
open Go.RowKit
open Pol (co Sm)

theorem cr_fits_yes (n : Nat) (h1 : 1 ≤ n) (h2 : n ≤ 1000) (w : World) : Calls Try.prog 41 #[.int .i64 (n : Int)] w (fun e w' => e = .returned (.bool true) ∧ w = w') := by
  have d1 : decide ((n : Int) < 1) = false := decide_eq_false (by omega)
  have d1' : decide (1 ≤ (n : Int)) = true := decide_eq_true (by omega)
  have d2 : decide ((n : Int) ≤ 1000) = true := decide_eq_true (by omega)
  have d2' : decide (1000 < (n : Int)) = false := decide_eq_false (by omega)
  go_enter Try.func41, Try.ntmps41
  go_wp2
  go_ret
  exact ⟨rfl, rfl⟩
theorem cr_fits_no (n : Nat) (h : ¬ (1 ≤ n ∧ n ≤ 1000)) (w : World) : Calls Try.prog 41 #[.int .i64 (n : Int)] w (fun e w' => e = .returned (.bool false) ∧ w = w') := by
  by_cases h1 : 1 ≤ n
  · have d1 : decide ((n : Int) < 1) = false := decide_eq_false (by omega)
    have d1' : decide (1 ≤ (n : Int)) = true := decide_eq_true (by omega)
    have d2 : decide ((n : Int) ≤ 1000) = false := decide_eq_false (by omega)
    have d2' : decide (1000 < (n : Int)) = true := decide_eq_true (by omega)
    clear h
    go_enter Try.func41, Try.ntmps41
    go_wp2
    go_ret
    exact ⟨rfl, rfl⟩
  · have d1 : decide ((n : Int) < 1) = true := decide_eq_true (by omega)
    have d1' : decide (1 ≤ (n : Int)) = false := decide_eq_false (by omega)
    clear h
    go_enter Try.func41, Try.ntmps41
    go_wp2
    go_ret
    exact ⟨rfl, rfl⟩
def Z6 : Array Value := #[.int .u8 0, .int .u8 0, .int .u8 0, .int .u8 0, .int .u8 0, .int .u8 0]
theorem zero6 : (Try.prog.info? 72).map (·.size) = some 6 := (zero_of_info (v := .agg (Array.replicate 6 (.int .u8 0))) (by kernel_rfl)).2
theorem header_cells (t : List Nat) : (bv (t.length / 256 :: t.length % 256 :: cbs (crcl t))).toArray = #[.int .u8 ((t.length / 256 : Nat) : Int), .int .u8 ((t.length % 256 : Nat) : Int), .int .u8 ((crcl t / 16777216 : Nat) : Int), .int .u8 ((crcl t / 65536 % 256 : Nat) : Int), .int .u8 ((crcl t / 256 % 256 : Nat) : Int), .int .u8 ((crcl t % 256 : Nat) : Int)] := rfl
set_option maxHeartbeats 800000 in
set_option maxRecDepth 100000 in
theorem cr_header (t : List Nat) (A : Option Addr) (c : Nat) (w : World) (hr : Rd w A t) (hl : t.length ≤ 65535) :
    Calls Try.prog 42 #[.slice A t.length c] w (Tells (.agg (bv (t.length / 256 :: t.length % 256 :: cbs (crcl t))).toArray) w) := by
  have HO0 := Lib.hid (fun W (hx : Ext w W) => cr_of t A c W (hr.ext hx) (by omega))
  have hcl := crcl_lt hr.1
  rw [header_cells]
  obtain ⟨C, hC⟩ : ∃ C, crcl t = C := ⟨_, rfl⟩
  obtain ⟨n, hn⟩ : ∃ n, t.length = n := ⟨_, rfl⟩
  rw [hn, hC] at HO0 ⊢
  rw [hC] at hcl
  rw [hn] at hl
  obtain ⟨x0, hx0⟩ : ∃ x, n / 256 = x := ⟨_, rfl⟩
  obtain ⟨x1, hx1⟩ : ∃ x, n % 256 = x := ⟨_, rfl⟩
  obtain ⟨y0, hy0⟩ : ∃ x, C / 16777216 = x := ⟨_, rfl⟩
  obtain ⟨y1, hy1⟩ : ∃ x, C / 65536 = x := ⟨_, rfl⟩
  obtain ⟨y2, hy2⟩ : ∃ x, C / 256 = x := ⟨_, rfl⟩
  obtain ⟨z1, hz1⟩ : ∃ x, y1 % 256 = x := ⟨_, rfl⟩
  obtain ⟨z2, hz2⟩ : ∃ x, y2 % 256 = x := ⟨_, rfl⟩
  obtain ⟨z3, hz3⟩ : ∃ x, C % 256 = x := ⟨_, rfl⟩
  rw [hx0, hx1, hy0, hy1, hy2, hz1, hz2, hz3]
  have e0 : (n : Int).tdiv 256 = (x0 : Int) := by rw [Int.tdiv_eq_ediv_of_nonneg (by omega)]; omega
  have e0' : (n : Int) / 256 = (x0 : Int) := by omega
  have e2 : (C : Int) / 16777216 = (y0 : Int) := by omega
  have e3 : (C : Int) / 65536 = (y1 : Int) := by omega
  have e4 : (C : Int) / 256 = (y2 : Int) := by omega
  have w0 : IntKind.u8.wrap (x0 : Int) = (x0 : Int) := IntWalk.u8_in _ (by omega)
  have w1 : IntKind.u8.wrap (n : Int) = (x1 : Int) := by rw [IntKind.wrap_u8]; omega
  have w2 : IntKind.u8.wrap (y0 : Int) = (y0 : Int) := IntWalk.u8_in _ (by omega)
  have w3 : IntKind.u8.wrap (y1 : Int) = (z1 : Int) := by rw [IntKind.wrap_u8]; omega
  have w4 : IntKind.u8.wrap (y2 : Int) = (z2 : Int) := by rw [IntKind.wrap_u8]; omega
  have w5 : IntKind.u8.wrap (C : Int) = (z3 : Int) := by rw [IntKind.wrap_u8]; omega
  have hbx : x0 < 256 ∧ x1 < 256 ∧ y0 < 256 := by omega
  have hby : y1 < 4294967296 ∧ y2 < 4294967296 ∧ z1 < 256 ∧ z2 < 256 ∧ z3 < 256 := by omega
  obtain ⟨hb1, hb2, hb3⟩ := hbx
  obtain ⟨hb4, hb5, hb6, hb7, hb8⟩ := hby
  clear hx0 hx1 hy0 hy1 hy2 hz1 hz2 hz3 hC hn hr
  have HX0 := Lib.hid ((Ext.refl w).alloc (.cells #[.int .u8 0, .int .u8 0, .int .u8 0, .int .u8 0, .int .u8 0, .int .u8 0] 72))
  have HO2 := Lib.hid (fun W (hx : Ext w W) => show Calls Try.prog 44 #[.slice A n c] W (Tells (.int .u32 (C : Int)) W) from HO0.out W hx)
  go_enter Try.func42, Try.ntmps42
  go_wp2_with fail
  refine (HO2.out _ HX0.out).mono ?_
  rintro e w1 ⟨rfl, hx1⟩
  have hg := (hx1.below.block w.heap.size (by simp)).trans (heap_alloc_new w (.cells Z6 72))
  have hin : (Try.prog.info? 72).map (·.size) = some (#[.int .u8 (x0 : Int), .int .u8 (x1 : Int), .int .u8 (y0 : Int), .int .u8 (z1 : Int), .int .u8 (z2 : Int), .int .u8 (z3 : Int)] : Array Value).size := zero6
  have hon : (#[.int .u8 (x0 : Int), .int .u8 (x1 : Int), .int .u8 (y0 : Int), .int .u8 (z1 : Int), .int .u8 (z2 : Int), .int .u8 (z3 : Int)] : Array Value).all (·.oneCell') = true := by simp [Value.oneCell']
  have hsz : Z6.size = (#[.int .u8 (x0 : Int), .int .u8 (x1 : Int), .int .u8 (y0 : Int), .int .u8 (z1 : Int), .int .u8 (z2 : Int), .int .u8 (z3 : Int)] : Array Value).size := rfl
  obtain ⟨V, hV⟩ : ∃ V, (#[.int .u8 (x0 : Int), .int .u8 (x1 : Int), .int .u8 (y0 : Int), .int .u8 (z1 : Int), .int .u8 (z2 : Int), .int .u8 (z3 : Int)] : Array Value) = V := ⟨_, rfl⟩
  rw [hV] at hin hon hsz ⊢
  have hg3 := setRow_heap w1 w.heap.size Z6 V _ _ hg
  have HV := Lib.hid hV
  have HG := Lib.hid hg
  have HIN := Lib.hid hin
  have HON := Lib.hid hon
  have HSZ := Lib.hid hsz
  have HG3 := Lib.hid hg3
  have HX3 := Lib.hid ((HX0.out.trans hx1).setRow (g := w.heap.size) (Nat.le_refl _) V)
  clear hx1 hg hin hon hsz hV hg3
  go_wp2_with (first | (rw [HV.out]; with_reducible refine wpList_store_all rfl 72 (.tmp 2) (.tmp 25) rfl w.heap.size Z6 V rfl rfl HG.out HIN.out HSZ.out HON.out ?_))
  exact ⟨rfl, .agg V, results_cell_row Try.results42 _ _ w.heap.size 72 V (0, 0) _ rfl HG3.out Try.underlying72 rfl HIN.out, by rw [HV.out], HX3.out⟩
end Go.Proofs.Ytfbnckecfapakaa

/-
  What Frame of layer 9 does. Conditions: none.
-/
namespace Go.Proofs.Ytfbnckecfapakaa
open Go.RowKit
open Pol (co Sm)

/-- A frame's head. -/
def hd6 (t : List Nat) : List Nat := t.length / 256 :: t.length % 256 :: cbs (crcl t)
theorem hd6_len (t : List Nat) : (hd6 t).length = 6 := rfl
theorem fr_hd6 (t : List Nat) : fr t = hd6 t ++ t := rfl
theorem hd6_sm {t : List Nat} (h : Sm t) (hl : t.length ≤ 65535) : Sm (hd6 t) := by
  have hc := crcl_lt h
  exact Sm.cons (by omega) (Sm.cons (by omega) (cbs_sm hc))
theorem Mine.ownT {w : World} {base : Nat} {v : Value} {t : List Nat} (h : Mine w base v t) (hs : Sm t) : OwnT base v w t := by
  obtain ⟨B, c, rfl, hc, hr⟩ := h.slice hs
  exact ⟨B, c, rfl, hc, hr, fun b o e _ => (h.block b (by rw [e]; rfl)).1⟩
theorem Mine.ownW {w : World} {base : Nat} {v : Value} {t : List Nat} (h : Mine w base v t) (hs : Sm t) : OwnW base v w t := by
  obtain ⟨B, c, rfl, hc, hr⟩ := h.slice hs
  refine ⟨B, c, rfl, hc, hr, fun b o e _ => ⟨(h.block b (by rw [e]; rfl)).1, fun i _ => ?_⟩⟩
  subst e
  rcases h.2 with ⟨e, _⟩ | ⟨g, cap, cur, e, _, hg, _⟩
  · cases e
  · injection e with e1 e2 e3
    injection e1 with e1
    injection e1 with e1 e2
    subst e1; subst e2
    rw [Nat.zero_add]
    exact frozen_of_row w b i cur _ hg
set_option maxHeartbeats 800000 in
set_option maxRecDepth 100000 in
theorem cr_frame_m (l : List Nat) (A : Option Addr) (c : Nat) (w : World) (hr : Rd w A l) :
    Calls Try.prog 34 #[.slice A l.length c] w (FrameE .i64 l w) := by
  unfold FrameE
  by_cases hf : FrOk l
  · obtain ⟨hf1, hf2⟩ := hf
    have HF := Lib.hid (cr_fits_yes l.length hf1 hf2 w)
    have HH := Lib.hid (cr_header l A c w hr (by omega))
    obtain ⟨a, ha⟩ : ∃ a, A = some a := by
      obtain ⟨b, o, e, _⟩ := hr.addr (by omega)
      exact ⟨_, e⟩
    subst ha
    have HR := Lib.hid hr
    have HS := Lib.hid (hd6_sm hr.1 (by omega))
    have HFO := Lib.hid (show FrOk l from ⟨hf1, hf2⟩)
    have HFH := Lib.hid (fr_hd6 l)
    have hv : (bv (hd6 l)).toArray.size = 6 := by simp [bv_len, hd6_len]
    have hone : (bv (hd6 l)).toArray.all (·.oneCell') = true := by
      rw [Array.all_eq_true]; intro i h; exact bv_one (hd6 l) _ (by simp)
    have HRD := Lib.hid (fun (W : World) (g : Nat) (h : W.heap[g]? = some (.cells (bv (hd6 l)).toArray 72 (0, 0))) => show Rd W (some ⟨g, 0, none⟩) (hd6 l) from
      ⟨hd6_sm hr.1 (by omega), fun i hi => ⟨g, 0, rfl, by rw [Nat.zero_add, cell_of_row W g i _ _ _ h]; simpa using bv_at (hd6 l) i hi⟩⟩)
    rw [show (bv (l.length / 256 :: l.length % 256 :: cbs (crcl l))).toArray = (bv (hd6 l)).toArray from rfl] at HH
    obtain ⟨V, hV⟩ : ∃ V, (bv (hd6 l)).toArray = V := ⟨_, rfl⟩
    rw [hV] at HH HRD hv hone
    obtain ⟨H6, hH6⟩ : ∃ H, hd6 l = H := ⟨_, rfl⟩
    have h6 : H6.length = 6 := by rw [← hH6]; rfl
    rw [hH6] at HFH HS HRD
    have H6L := Lib.hid h6
    have HVS := Lib.hid hv
    have HON := Lib.hid hone
    obtain ⟨n, hn⟩ : ∃ n, l.length = n := ⟨_, rfl⟩
    have HN := Lib.hid hn
    rw [hn] at HF HH hf1 hf2 ⊢
    clear hr hV hH6 hn hv hone h6
    go_enter Try.func34, Try.ntmps34
    go_wp2_with fail
    refine HF.out.mono ?_
    rintro e w1 ⟨rfl, rfl⟩
    go_wp2_with fail
    refine HH.out.mono ?_
    rintro e w1 ⟨rfl, hx1⟩
    have hg := heap_alloc_new w1 (.cells Z6 72)
    have hg3 := setRow_heap _ w1.heap.size Z6 V _ _ hg
    have hx3 := (hx1.alloc (.cells Z6 72)).setRow (g := w1.heap.size) hx1.size V
    have hin : (Try.prog.info? 72).map (·.size) = some V.size := by rw [HVS.out]; exact zero6
    have hsz : Z6.size = V.size := by rw [HVS.out]; rfl
    obtain ⟨w2, hw2⟩ : ∃ w2, (w1.alloc (.cells Z6 72)).setRow w1.heap.size V = w2 := ⟨_, rfl⟩
    rw [hw2] at hg3 hx3
    unfold Z6 at hg hw2 hsz
    have HW2 := Lib.hid hw2
    have HG := Lib.hid hg
    have HIN := Lib.hid hin
    have HSZ := Lib.hid hsz
    have HX := Lib.hid hx3
    have HR6 := Lib.hid (HRD.out _ _ hg3)
    have HRW := Lib.hid (HR.out.ext hx3)
    clear hx1 hg hg3 hx3 hin hsz hw2
    go_wp2_with (first | (with_reducible refine wpList_store_all rfl 72 (.tmp 4) (.tmp 10) rfl w1.heap.size _ V rfl rfl HG.out HIN.out HSZ.out HON.out ?_; rw [HW2.out]) | (at_builtin; refine wpList_append_full9 rfl (.tmp 11) (.tmp 12) rfl w1.heap.size 0 6 H6 l rfl H6L.out HR6.out a c n rfl HN.out HRW.out (by rw [HN.out]; omega) (by rw [H6L.out, HN.out]; omega) ?_; intro v3 w3 hm3 hx3; rw [← HFH.out] at hm3; have HM3 := Lib.hid hm3; have HX3 := Lib.hid (HX.out.trans hx3); clear hm3 hx3))
    go_ret2
    exact ⟨HX3.out, .inl ⟨HFO.out, _, rfl, HM3.out.down HX.out.size⟩⟩
  · have HF := Lib.hid (cr_fits_no l.length hf w)
    have HNO := Lib.hid hf
    generalize l.length = n at *
    clear hr hf
    go_enter Try.func34, Try.ntmps34
    go_wp2_with fail
    refine HF.out.mono ?_
    rintro e w1 ⟨rfl, rfl⟩
    go_wp2
    go_ret2
    exact ⟨Ext.refl _, .inr ⟨HNO.out, none, 0, rfl⟩⟩
theorem cr_frame (l : List Nat) (A : Option Addr) (c : Nat) (w : World) (hr : Rd w A l) :
    Calls Try.prog 34 #[.slice A l.length c] w (FrameS l w) := (cr_frame_m l A c w hr).mono fun _ _ ⟨hx, h⟩ => ⟨hx, h.imp (fun ⟨hf, v, e, hm⟩ => ⟨hf, v, e, hm.ownT (fr_sm hr.1 hf)⟩) id⟩
end Go.Proofs.Ytfbnckecfapakaa

/-
  Bytes of a call's own to which others are appended: in a block that is theirs, or in the first part of one, without room. Conditions: lengths up to 2^40.
-/
namespace Go.Proofs.Ytfbnckecfapakaa
open Go.RowKit
open Pol (co Sm)

/-- The first part of a block, without room. -/
def Full (w : World) (base : Nat) (v : Value) (l : List Nat) : Prop :=
  ∃ g cur, v = .slice (some ⟨g, 0, none⟩) l.length l.length ∧ base ≤ g ∧ w.heap[g]? = some (.cells cur 5) ∧ cur.toList.take l.length = bv l
def Fst (w : World) (base : Nat) (v : Value) (l : List Nat) : Prop := Sm l ∧ (Mine w base v l ∨ Full w base v l)
theorem Full.slice {w : World} {base : Nat} {v : Value} {l : List Nat} (h : Full w base v l) (hs : Sm l) : ∃ g, v = .slice (some ⟨g, 0, none⟩) l.length l.length ∧ base ≤ g ∧ g < w.heap.size ∧ Rd w (some ⟨g, 0, none⟩) l ∧ ∀ i, w.frozen? ⟨g, i, none⟩ = false := by
  obtain ⟨g, cur, rfl, hb, hg, ht⟩ := h
  refine ⟨g, rfl, hb, row_lt hg, ⟨hs, fun i hi => ⟨g, 0, rfl, ?_⟩⟩, fun i => frozen_of_row w g i cur _ hg⟩
  rw [Nat.zero_add, cell_of_row w g i cur _ _ hg, ← bv_at l i hi, ← ht, List.getElem?_take, if_pos hi]
  simp
theorem Fst.slice {w : World} {base : Nat} {v : Value} {l : List Nat} (h : Fst w base v l) : ∃ B c, v = .slice B l.length c ∧ l.length ≤ c ∧ Rd w B l := by
  obtain ⟨hs, h | h⟩ := h
  · exact h.slice hs
  · obtain ⟨g, e, _, _, hr, _⟩ := h.slice hs
    exact ⟨_, _, e, Nat.le_refl _, hr⟩
theorem Fst.ownW {w : World} {base : Nat} {v : Value} {l : List Nat} (h : Fst w base v l) : OwnW base v w l := by
  obtain ⟨hs, h | h⟩ := h
  · exact h.ownW hs
  · obtain ⟨g, e, hb, _, hr, hz⟩ := h.slice hs
    refine ⟨_, _, e, Nat.le_refl _, hr, fun b o e2 _ => ?_⟩
    injection e2 with e2
    injection e2 with e2 e3
    subst e2
    exact ⟨hb, fun i _ => hz _⟩
theorem Fst.block {w : World} {base : Nat} {v : Value} {l : List Nat} (h : Fst w base v l) : ∀ k, v.ownBlock = some k → base ≤ k ∧ k < w.heap.size := fun k hk => by
  obtain ⟨hs, h | h⟩ := h
  · exact h.block k hk
  · obtain ⟨g, rfl, hb, hg, _⟩ := h.slice hs
    injection hk with hk
    subst hk
    exact ⟨hb, hg⟩
theorem Fst.down {w : World} {base base' : Nat} {v : Value} {l : List Nat} (h : Fst w base v l) (hb : base' ≤ base) : Fst w base' v l := ⟨h.1, h.2.imp (fun h => h.down hb) (fun ⟨g, cur, h1, h2, h3⟩ => ⟨g, cur, h1, Nat.le_trans hb h2, h3⟩)⟩
theorem Fst.lift {w : World} {base base' : Nat} {v : Value} {l : List Nat} (h : Fst w base v l) (hb : ∀ k, v.ownBlock = some k → base' ≤ k) : Fst w base' v l := ⟨h.1, h.2.imp
  (fun h => ⟨h.1, h.2.imp id fun ⟨g, cap, cur, e, h2, h3⟩ => ⟨g, cap, cur, e, hb g (by rw [e]; rfl), h3⟩⟩)
  (fun ⟨g, cur, e, h2, h3⟩ => ⟨g, cur, e, hb g (by rw [e]; rfl), h3⟩)⟩
theorem Fst.stay {w w' : World} {base : Nat} {v : Value} {l : List Nat} (h : Fst w base v l) (hk : ∀ k, v.ownBlock = some k → w'.heap[k]? = w.heap[k]?) : Fst w' base v l := ⟨h.1, h.2.imp
  (fun h => ⟨h.1, h.2.imp id fun ⟨g, cap, cur, e, h2, h3, h4⟩ => ⟨g, cap, cur, e, h2, (hk g (by rw [e]; rfl)).trans h3, h4⟩⟩)
  (fun ⟨g, cur, e, h2, h3, h4⟩ => ⟨g, cur, e, h2, (hk g (by rw [e]; rfl)).trans h3, h4⟩)⟩
theorem Fst.only {X : Nat → Prop} {w w' : World} {base : Nat} {v : Value} {l : List Nat} (h : Fst w base v l) (ho : Only X w w') (hx : ∀ k, v.ownBlock = some k → ¬ X k) : Fst w' base v l :=
  h.stay fun k hk => ho.block k (h.block k hk).2 (hx k hk)
theorem Fst.ext {w w' : World} {base : Nat} {v : Value} {l : List Nat} (h : Fst w base v l) (hx : Ext w w') : Fst w' base v l := h.only (X := fun _ => False) (Only.of_ext hx) (fun _ _ h => h)
theorem Mine.fst {w : World} {base : Nat} {v : Value} {l : List Nat} (h : Mine w base v l) (hs : Sm l) : Fst w base v l := ⟨hs, .inl h⟩
theorem Fst.nil (w : World) (base : Nat) : Fst w base (.slice none 0 0) [] := ⟨Sm.nil, .inl (Mine.nil _ _)⟩
/-- The first part of bytes of a call's own. -/
theorem Mine.cut {w : World} {base : Nat} {n c : Nat} {A : Option Addr} {l : List Nat} (h : Mine w base (.slice A n c) l) (hs : Sm l) (k : Nat) (hk : k ≤ l.length) : Fst w base (.slice A k k) (l.take k) := by
  have hl : (l.take k).length = k := by rw [List.length_take]; omega
  refine ⟨Pol.co_lt_of fun x hx => hs.mem x (List.mem_of_mem_take hx), ?_⟩
  rcases h.2 with ⟨e, hn⟩ | ⟨g, cap, cur, e, hb, hg, hnc, _, hcs, ht⟩
  · injection e with e1 e2 e3
    subst e1
    have : l = [] := List.eq_nil_of_length_eq_zero hn
    subst this
    have : k = 0 := by simpa using hk
    subst this
    exact .inl (Mine.nil _ _)
  · injection e with e1 e2 e3
    subst e1
    refine .inr ⟨g, cur, by rw [hl], hb, hg, ?_⟩
    rw [hl, show bv (l.take k) = (bv l).take k from by unfold bv; rw [List.map_take], ← ht, List.take_take, Nat.mul_one, Nat.min_eq_left hk]
set_option maxRecDepth 100000 in
theorem run_append_fst (w : World) (base : Nat) (ty : TypeId) (v : Value) (l m : List Nat) (hown : Fst w base v l) (A : Option Addr) (c : Nat) (hr : Rd w A m)
    (hlen : l.length + m.length ≤ 1099511627776) (hbase : base ≤ w.heap.size) :
    ∃ v' w', (Builtin.append_ #[22, 22] ty #[v, .slice A m.length c]).run Try.prog w = .ok v' w' ∧ Fst w' base v' (l ++ m) ∧ w.grownBy w' v.ownBlock ∧ (v'.ownBlock = v.ownBlock ∨ ∀ q, v'.ownBlock = some q → w.heap.size ≤ q) := by
  have hsm : Sm (l ++ m) := Pol.co_lt_of fun z hz => by
    rcases List.mem_append.1 hz with h | h
    · exact hown.1.mem z h
    · exact hr.1.mem z h
  obtain ⟨hs, h | h⟩ := hown
  · obtain ⟨v', w', h1, h2, h3, h4⟩ := run_append_rd w base ty v l m h A c hr (by omega) hbase
    refine ⟨v', w', h1, h2.fst hsm, h3, h4.imp id fun e q hq => ?_⟩
    rw [e] at hq
    injection hq with hq
    omega
  · rcases Nat.eq_zero_or_pos m.length with h0 | h0
    · have : m = [] := List.eq_nil_of_length_eq_zero h0
      subst this
      obtain ⟨i0, hi, hz0, hz1, hz2⟩ := info_parts u8_info
      have h' := h
      obtain ⟨g, cur, rfl, _⟩ := h'
      refine ⟨_, w, ?_, by rw [List.append_nil]; exact ⟨hs, .inr h⟩, ⟨rfl, rfl, rfl, Nat.le_refl _, fun _ _ _ => rfl⟩, .inl rfl⟩
      cases A <;> simp [Builtin.append_, run_underlying Try.underlying22, sizeOf, typeInfo, hi, Builtin.lenOf, Builtin.firstCells, storeCells, loadCells, loadCellsFrom]
    · obtain ⟨g, rfl, hb, hg, hrg, _⟩ := h.slice hs
      obtain ⟨b, o, rfl, _⟩ := hr.addr h0
      obtain ⟨v', w', h1, h2, h3⟩ := run_append_full9 w ty g 0 l.length c l m rfl hrg ⟨b, o, none⟩ hr h0 hlen
      exact ⟨v', w', h1, (h2.down hbase).fst hsm, h3.grown _, .inr fun q hq => (h2.block q hq).1⟩
/-- At the operation, for the walk. -/
theorem wpList_append_fst {ops : Array Oper} {rest : List Oper} {o : Oper} {a : Act} {w : World} {Q : Exit → Act → World → Prop} (hgd : o.guard = none) (s x : Operand)
    (ho : o.op = .call { callee := .builtin .append, args := #[s, x], argTypes := #[22, 22] })
    (base : Nat) (v : Value) (l m : List Nat) (hs : a.eval s = v) (hown : Fst w base v l) (A : Option Addr) (n c : Nat) (hx : a.eval x = .slice A n c) (hn : m.length = n) (hr : Rd w A m)
    (hlen : l.length + m.length ≤ 1099511627776) (hbase : base ≤ w.heap.size)
    (h : ∀ v' w', Fst w' base v' (l ++ m) → w.grownBy w' v.ownBlock → (v'.ownBlock = v.ownBlock ∨ ∀ q, v'.ownBlock = some q → w.heap.size ≤ q) → wpList Try.prog ops Q rest (a.put o.dst v') w') :
    wpList Try.prog ops Q (o :: rest) a w := by
  subst hn
  refine wpList_plain hgd fun K hK => ?_
  obtain ⟨v', w', hrun, h2, h3, h4⟩ := run_append_fst w base o.type v l m hown A c hr hlen hbase
  unfold Oper.wp execOp
  simp only [ho, resolve, invoke, builtin, Sem.run_bind, Sem.run_pure, Result.andThen_ok, List.map_toArray, List.map_cons, List.map_nil, hs, hx, hrun]
  exact hK _ _ (h v' w' h2 h3 h4)
end Go.Proofs.Ytfbnckecfapakaa

/-
  What a disk is, and its clone. Conditions: no more than 2^16 bytes of each kind.
-/
namespace Go.Proofs.Ytfbnckecfapakaa
open Go.RowKit
open Pol (co Sm)

/-- A disk of a call's own, whose two slices share no block. -/
def DiskM (F L : List Nat) (w : World) (e : Ending) (w' : World) : Prop :=
  Ext w w' ∧ ∃ f l, e = .returned (.agg #[f, l]) ∧ Mine w' w.heap.size f F ∧ Mine w' w.heap.size l L ∧ Sp f l
/-- Worlds in which the copy of the disk that was handed in stays. -/
def TwoB (g : Nat) (f l : Value) (W : World) : Prop := W.cell? ⟨g, 0, none⟩ = some f ∧ W.cell? ⟨g, 1, none⟩ = some l
set_option maxHeartbeats 1600000 in
set_option maxRecDepth 100000 in
theorem jn_clone (F L : List Nat) (A B : Option Addr) (ca cb : Nat) (w : World) (hf : Rd w A F) (hl : Rd w B L) (hfl : F.length ≤ 65536) (hll : L.length ≤ 65536) :
    Calls Try.prog 33 #[.agg #[.slice A F.length ca, .slice B L.length cb]] w (DiskM F L w) := by
  unfold DiskM
  have HC1 := Lib.hid (fun W (h : Ext w W) => cr_clone F A ca W (hf.ext h) hfl)
  have HC2 := Lib.hid (fun W (h : Ext w W) => cr_clone L B cb W (hl.ext h) hll)
  have HSF := Lib.hid hf.1
  have HSL := Lib.hid hl.1
  obtain ⟨nf, hnf⟩ : ∃ n, F.length = n := ⟨_, rfl⟩
  obtain ⟨nl, hnl⟩ : ∃ n, L.length = n := ⟨_, rfl⟩
  rw [hnf] at HC1 ⊢
  rw [hnl] at HC2 ⊢
  clear hf hl hfl hll hnf hnl
  have hx1 : Ext w ((w.alloc (.cells #[.slice A nf ca, .slice B nl cb] 30)).alloc (.cells #[.slice none 0 0, .slice none 0 0] 30)) := ((Ext.refl w).alloc _).alloc _
  have hb1 : ((w.alloc (.cells #[.slice A nf ca, .slice B nl cb] 30)).alloc (.cells #[.slice none 0 0, .slice none 0 0] 30)).heap[w.heap.size]? = some (.cells #[.slice A nf ca, .slice B nl cb] 30 (0, 0)) := by
    rw [heap_alloc_old _ _ (by simp)]; exact heap_alloc_new w _
  have hb2 : ((w.alloc (.cells #[.slice A nf ca, .slice B nl cb] 30)).alloc (.cells #[.slice none 0 0, .slice none 0 0] 30)).heap[w.heap.size + 1]? = some (.cells #[.slice none 0 0, .slice none 0 0] 30 (0, 0)) := by
    have h := heap_alloc_new (w.alloc (.cells #[.slice A nf ca, .slice B nl cb] 30)) (.cells #[.slice none 0 0, .slice none 0 0] 30)
    have e : (w.alloc (.cells #[.slice A nf ca, .slice B nl cb] 30)).heap.size = w.heap.size + 1 := by simp
    rwa [e] at h
  have HX1 := Lib.hid hx1
  have HT1 := Lib.hid (show TwoB w.heap.size (.slice A nf ca) (.slice B nl cb) ((w.alloc (.cells #[.slice A nf ca, .slice B nl cb] 30)).alloc (.cells #[.slice none 0 0, .slice none 0 0] 30)) from ⟨by rw [cell_of_row _ _ 0 _ _ _ hb1]; rfl, by rw [cell_of_row _ _ 1 _ _ _ hb1]; rfl⟩)
  have HB2 := Lib.hid hb2
  clear hx1 hb1 hb2
  go_enter Try.func33, Try.ntmps33
  go_wp2
  obtain ⟨g, hg⟩ : ∃ g, w.heap.size = g := ⟨_, rfl⟩
  have HG := Lib.hid hg
  rw [hg] at HT1 HB2 ⊢
  clear hg
  generalize (w.alloc (.cells #[.slice A nf ca, .slice B nl cb] 30)).alloc (.cells #[.slice none 0 0, .slice none 0 0] 30) = w1 at HX1 HT1 HB2 ⊢
  refine wp_region_plan (TwoB g (.slice A nf ca) (.slice B nl cb)) [0, 1, 2, 3, 4, 5] (.yes 0 (.yes 1 (.yes 3 (.yes 4 (.one 2 (.one 5 (.one 6 (.one 7 .done)))))))) (by kernel_rfl) (fun c a a' w e h => ⟨e ▸ h.1, h.2⟩) (by kernel_rfl) HT1.out ?_
  refine plan_yes rfl (fun K hK => ?_); go_simp; refine ⟨_, fun _ _ => rfl, hK _ ?_⟩; clear hK K
  refine plan_yes rfl (fun K hK => ?_); go_simp; refine ⟨.slice A nf ca, fun W hW => ?_, hK _ ?_⟩
  · have h1 := hW.1
    go_simp
  clear hK K
  refine plan_yes rfl (fun K hK => ?_); go_simp; refine ⟨_, fun _ _ => rfl, hK _ ?_⟩; clear hK K
  refine plan_yes rfl (fun K hK => ?_); go_simp; refine ⟨.slice B nl cb, fun W hW => ?_, hK _ ?_⟩
  · have h1 := hW.2
    go_simp
  clear hK K
  refine plan_one rfl (fun K hK => ?_)
  go_wp2_with fail
  refine (HC1.out _ (HX1.out.drew)).mono ?_
  rintro e v1 ⟨hx2, f, rfl, hm2⟩
  obtain ⟨Bf, cf, rfl, _, _⟩ := hm2.slice HSF.out
  have HXS := Lib.hid (HX1.out.drew.size)
  have HX2 := Lib.hid (HX1.out.drew.trans hx2)
  have HV1 := Lib.hid (show w1.heap.size ≤ v1.heap.size from hx2.size)
  have HM2 := Lib.hid hm2
  have HT2 := Lib.hid (show TwoB g (.slice A nf ca) (.slice B nl cb) v1 from ⟨hx2.at HT1.out.1, hx2.at HT1.out.2⟩)
  have HB3 := Lib.hid (hx2.row HB2.out)
  clear hx2 hm2
  go_wp2
  refine ⟨fun _ => HT2.out, ?_⟩
  refine plan_one rfl (fun K hK => ?_)
  go_wp2_with fail
  refine (HC2.out _ HX2.out).mono ?_
  rintro e v2 ⟨hx3, l, rfl, hm3⟩
  obtain ⟨Bl, cl, rfl, _, _⟩ := hm3.slice HSL.out
  have HX3 := Lib.hid (HX2.out.trans hx3)
  have HM3 := Lib.hid (mine_ext HM2.out hx3)
  have HL3 := Lib.hid hm3
  have HT3 := Lib.hid (show TwoB g (.slice A nf ca) (.slice B nl cb) v2 from ⟨hx3.at HT2.out.1, hx3.at HT2.out.2⟩)
  have HB4 := Lib.hid (hx3.row HB3.out)
  have HSP := Lib.hid (show Sp (.slice Bf F.length cf) (.slice Bl L.length cl) from fun q hq hq2 => by
    have h1 := (HM2.out.block q hq).2
    have h2 := (hm3.block q hq2).1
    omega)
  clear hx3 hm3
  go_wp2
  refine ⟨fun _ => HT3.out, ?_⟩
  refine plan_one rfl (fun K hK => ?_)
  go_wp2
  refine ⟨fun h => absurd h (by decide), ?_⟩
  refine plan_one rfl (fun K hK => ?_)
  have hin : (Try.prog.info? 30).map (·.size) = some (#[Value.slice Bf F.length cf, .slice Bl L.length cl] : Array Value).size := by kernel_rfl
  have hsz : (#[Value.slice none 0 0, .slice none 0 0] : Array Value).size = (#[Value.slice Bf F.length cf, .slice Bl L.length cl] : Array Value).size := rfl
  have hone : (#[Value.slice Bf F.length cf, .slice Bl L.length cl] : Array Value).all (·.oneCell') = true := by simp [Value.oneCell']
  go_wp2_with (with_reducible refine wpList_store_all rfl 30 (.tmp 2) (.tmp 9) rfl (g + 1) _ #[.slice Bf F.length cf, .slice Bl L.length cl] rfl rfl HB4.out hin hsz hone ?_)
  refine ⟨fun h => absurd h (by decide), ?_⟩
  unfold wpPlan
  have HX4 := Lib.hid (show Ext w (v2.setRow (g + 1) #[.slice Bf F.length cf, .slice Bl L.length cl]) from HX3.out.setRow (by rw [← HG.out]; omega) _)
  have hg3 := setRow_heap v2 (g + 1) _ #[.slice Bf F.length cf, .slice Bl L.length cl] _ _ HB4.out
  have hk : ∀ (v : Value) (l : List Nat) (base : Nat), Mine v2 base v l → (∀ q, v.ownBlock = some q → w1.heap.size ≤ q) → Mine (v2.setRow (g + 1) #[.slice Bf F.length cf, .slice Bl L.length cl]) base v l := fun v l base hm hb => hm.keep9 (grown_block v2 (g + 1) _) (fun k hk e => by
    injection e with e
    have h1 := hb k hk
    have h2 := row_lt HB2.out
    omega)
  have hs1 : w1.drew.heap.size = w1.heap.size := rfl
  have HM4 := Lib.hid ((hk _ _ _ HM3.out (fun q hq => (HM3.out.block q hq).1)).down (base' := w.heap.size) HXS.out)
  have HL4 := Lib.hid ((hk _ _ _ HL3.out (fun q hq => Nat.le_trans HV1.out (HL3.out.block q hq).1)).down (base' := w.heap.size) HX2.out.size)
  go_wp2
  refine bodyPost_ret (results_cell_row Try.results33 _ _ (g + 1) 30 _ (0, 0) _ rfl hg3 Try.underlying30 rfl hin) rfl ?_
  exact ⟨HX4.out, _, _, rfl, HM4.out, HL4.out, HSP.out⟩
end Go.Proofs.Ytfbnckecfapakaa

/-
  What a disk's own functions do that change it: extend, settle. Conditions: no more than 2^40 bytes.
-/
namespace Go.Proofs.Ytfbnckecfapakaa
open Go.RowKit
open Pol (co Sm)

/-- A disk at the head of a block: its two slices. -/
structure Dk (d : Nat) (C : Array Value) (ty : TypeId) (f l : Value) (F L : List Nat) (base : Nat) (w : World) : Prop where
  row : w.heap[d]? = some (.cells C ty)
  f0 : C[0]? = some f
  l1 : C[1]? = some l
  fst : Fst w base f F
  lst : Fst w base l L
  sp : Sp f l
  nf : f.ownBlock ≠ some d
  nl : l.ownBlock ≠ some d
  lt : base ≤ w.heap.size
theorem Dk.two {d : Nat} {C : Array Value} {ty : TypeId} {f l : Value} {F L : List Nat} {base : Nat} {w : World} (h : Dk d C ty f l F L base w) : TwoB d f l w :=
  ⟨by rw [cell_of_row w d 0 C _ _ h.row]; exact h.f0, by rw [cell_of_row w d 1 C _ _ h.row]; exact h.l1⟩
theorem Dk.at {d : Nat} {C : Array Value} {ty : TypeId} {f l : Value} {F L : List Nat} {base : Nat} {w w2 : World} (h : Dk d C ty f l F L base w) (h2 : w2.heap[d]? = some (.cells C ty)) : w2.cell? ⟨d, 0, none⟩ = some f ∧ w2.cell? ⟨d, 1, none⟩ = some l :=
  ⟨by rw [cell_of_row w2 d 0 C _ _ h2]; exact h.f0, by rw [cell_of_row w2 d 1 C _ _ h2]; exact h.l1⟩
theorem Dk.at2 {d : Nat} {C : Array Value} {ty : TypeId} {f l u : Value} {F L : List Nat} {base : Nat} {w w2 : World} (h : Dk d C ty f l F L base w) (h2 : w2.heap[d]? = some (.cells (C.setIfInBounds 0 u) ty)) : w2.cell? ⟨d, 1, none⟩ = some l := by
  rw [cell_of_row w2 d 1 _ _ _ h2, Array.getElem?_setIfInBounds_ne (by decide)]
  exact h.l1
def Settled (d : Nat) (C : Array Value) (ty : TypeId) (f : Value) (F L : List Nat) (base : Nat) (w : World) (e : Ending) (w' : World) : Prop :=
  e = .returned (.tuple #[]) ∧ Only (fun k => k = d ∨ f.ownBlock = some k) w w' ∧ ∃ v, w'.heap[d]? = some (.cells ((C.setIfInBounds 0 v).setIfInBounds 1 (.slice none 0 0)) ty) ∧ Fst w' base v (F ++ L) ∧ v.ownBlock ≠ some d ∧ (v.ownBlock = f.ownBlock ∨ ∀ q, v.ownBlock = some q → w.heap.size ≤ q)
def Extended (d : Nat) (C : Array Value) (ty : TypeId) (f l : Value) (F L b : List Nat) (base : Nat) (w : World) (e : Ending) (w' : World) : Prop :=
  e = .returned (.tuple #[]) ∧ Only (fun k => k = d ∨ l.ownBlock = some k) w w' ∧ ∃ v, w'.heap[d]? = some (.cells (C.setIfInBounds 1 v) ty) ∧ Fst w' base f F ∧ Fst w' base v (L ++ b) ∧ Sp f v ∧ v.ownBlock ≠ some d ∧ (v.ownBlock = l.ownBlock ∨ ∀ q, v.ownBlock = some q → w.heap.size ≤ q)

set_option maxHeartbeats 1600000 in
set_option maxRecDepth 100000 in
theorem jn_extend (d : Nat) (C : Array Value) (ty : TypeId) (f l : Value) (F L b : List Nat) (base : Nat) (A : Option Addr) (ca : Nat) (w : World) (h : Dk d C ty f l F L base w) (hb : Rd w A b) (hlen : L.length + b.length ≤ 1099511627776) :
    Calls Try.prog 35 #[.pointer (some ⟨d, 0, none⟩), .slice A b.length ca] w (Extended d C ty f l F L b base w) := by
  unfold Extended
  have HD := Lib.hid h
  have HB := Lib.hid hb
  have h1 := h.two.2
  have z1 := frozen_of_row w d 1 C _ h.row
  have HLEN := Lib.hid hlen
  obtain ⟨nb, hnb⟩ : ∃ n, b.length = n := ⟨_, rfl⟩
  have HN := Lib.hid hnb
  rw [hnb] at ⊢
  clear h hb hlen hnb
  go_enter Try.func35, Try.ntmps35
  go_wp2_with (at_builtin; refine wpList_append_fst rfl (.tmp 8) (.tmp 9) rfl base l L b rfl HD.out.lst A nb ca rfl HN.out HB.out HLEN.out HD.out.lt ?_; intro v w2 hm2 hg2 hb2; obtain ⟨B2, c2, ev, _, _⟩ := hm2.slice; obtain ⟨n2, hn2⟩ : ∃ n, (L ++ b).length = n := ⟨_, rfl⟩; rw [hn2] at ev; subst ev; clear hn2; have HM2 := Lib.hid hm2; have HG2 := Lib.hid hg2; have HB2 := Lib.hid hb2; have h2 := (Only.of_grown (X := fun k => l.ownBlock = some k) hg2 (fun k e => e)).row HD.out.row (fun e => HD.out.nl e); have HR2 := Lib.hid h2; have z2 := frozen_of_row w2 d 1 C _ h2; have k2 := (HD.out.at h2).2; clear hm2 hg2 hb2 h2)
  refine bodyPost_end (results_none rfl _ _ _) rfl ?_
  have o2 : Only (fun k => k = d ∨ l.ownBlock = some k) w (w2.setCell ⟨d, 1, none⟩ (.slice B2 n2 c2)) := (Only.of_grown HG2.out (fun k e => .inr e)).trans (Only.of_grown (grown_set w2 d 1 _) (fun k e => by injection e with e; exact .inl e.symm))
  have nd2 : (Value.slice B2 n2 c2).ownBlock ≠ some d := by
    rcases HB2.out with e | e
    · rw [e]; exact HD.out.nl
    · intro e2; have := e d e2; have := row_lt HD.out.row; omega
  refine ⟨rfl, o2, _, heap_setCell_same w2 d 1 C ty _ HR2.out, HD.out.fst.only o2 (fun k hk => ?_), HM2.out.only (X := fun k => k = d) (Only.of_grown (grown_set w2 d 1 _) (fun k e => by injection e with e; exact e.symm)) (fun k hk e => nd2 (by rw [← e]; exact hk)), fun q hq hq2 => ?_, nd2, HB2.out⟩
  · rintro (rfl | e)
    · exact HD.out.nf hk
    · exact HD.out.sp k hk e
  · rcases HB2.out with e | e
    · rw [e] at hq2; exact HD.out.sp q hq hq2
    · have := e q hq2; have := (HD.out.fst.block q hq).2; omega

set_option maxHeartbeats 1600000 in
set_option maxRecDepth 100000 in
theorem jn_settle (d : Nat) (C : Array Value) (ty : TypeId) (f l : Value) (F L : List Nat) (base : Nat) (w : World) (h : Dk d C ty f l F L base w) (hlen : F.length + L.length ≤ 1099511627776) :
    Calls Try.prog 37 #[.pointer (some ⟨d, 0, none⟩)] w (Settled d C ty f F L base w) := by
  unfold Settled
  obtain ⟨Bl, cl, el, hcl, hrl⟩ := h.lst.slice
  have HD := Lib.hid h
  have HRL := Lib.hid hrl
  have HT := Lib.hid h.two
  have HLEN := Lib.hid hlen
  obtain ⟨nl, hnl⟩ : ∃ n, L.length = n := ⟨_, rfl⟩
  have HN := Lib.hid hnl
  rw [hnl] at el
  have HEL := Lib.hid el
  clear h hlen hnl el hcl hrl
  go_enter Try.func37, Try.ntmps37
  go_wp2
  refine wp_region_plan (TwoB d f l) [0, 1, 2, 3, 4, 5, 6, 7, 8, 9] (.yes 0 (.yes 1 (.yes 2 (.yes 3 (.yes 4 (.yes 5 (.yes 6 (.yes 7 (.yes 8 (.one 9 (.one 10 (.one 11 (.one 12 .done))))))))))))) (by kernel_rfl) (fun c a a' w e h => ⟨e ▸ h.1, h.2⟩) (by kernel_rfl) HT.out ?_
  refine plan_yes rfl (fun K hK => ?_); go_simp; refine ⟨_, fun _ _ => rfl, hK _ ?_⟩; clear hK K
  refine plan_yes rfl (fun K hK => ?_); go_simp; refine ⟨_, fun _ _ => rfl, hK _ ?_⟩; clear hK K
  refine plan_yes rfl (fun K hK => ?_); go_simp; refine ⟨_, fun _ _ => rfl, hK _ ?_⟩; clear hK K
  refine plan_yes rfl (fun K hK => ?_); go_simp; refine ⟨_, fun _ _ => rfl, hK _ ?_⟩; clear hK K
  refine plan_yes rfl (fun K hK => ?_); go_simp; refine ⟨f, fun W hW => ?_, hK _ ?_⟩
  · have h1 := hW.1
    go_simp
  clear hK K
  refine plan_yes rfl (fun K hK => ?_); go_simp; refine ⟨_, fun _ _ => rfl, hK _ ?_⟩; clear hK K
  refine plan_yes rfl (fun K hK => ?_); go_simp; refine ⟨_, fun _ _ => rfl, hK _ ?_⟩; clear hK K
  refine plan_yes rfl (fun K hK => ?_); go_simp; refine ⟨_, fun _ _ => rfl, hK _ ?_⟩; clear hK K
  refine plan_yes rfl (fun K hK => ?_); go_simp; refine ⟨l, fun W hW => ?_, hK _ ?_⟩
  · have h1 := hW.2
    go_simp
  clear hK K
  refine plan_one rfl (fun K hK => ?_)
  go_wp2_with (at_builtin; refine wpList_append_fst rfl (.tmp 6) (.tmp 10) rfl base f F L rfl HD.out.fst Bl nl cl HEL.out HN.out HRL.out HLEN.out HD.out.lt ?_; intro v w2 hm2 hg2 hb2; obtain ⟨B2, c2, ev, _, _⟩ := hm2.slice; obtain ⟨n2, hn2⟩ : ∃ n, (F ++ L).length = n := ⟨_, rfl⟩; rw [hn2] at ev; subst ev; clear hn2; have HM2 := Lib.hid hm2; have hg2 : w.grownBy w2 f.ownBlock := ⟨hg2.os, hg2.tape, hg2.output, hg2.size, hg2.block⟩; have HG2 := Lib.hid hg2; have HB2 := Lib.hid hb2; have h2 := (Only.of_grown (X := fun k => f.ownBlock = some k) hg2 (fun k e => e)).row HD.out.row (fun e => HD.out.nf e); have HR2 := Lib.hid h2; clear hm2 hg2 hb2 h2)
  refine ⟨fun _ => ?_, ?_⟩
  · have hc := (Only.of_grown (X := fun k => f.ownBlock = some k) HG2.out (fun k e => e))
    exact ⟨hc.cell HT.out.1 HD.out.nf, hc.cell HT.out.2 HD.out.nf⟩
  have z2 := frozen_of_row w2 d 0 C _ HR2.out
  have k2 := (HD.out.at HR2.out).1
  refine plan_one rfl (fun K hK => ?_)
  go_wp2
  refine ⟨fun h => absurd h (by decide), ?_⟩
  refine plan_one rfl (fun K hK => ?_)
  go_wp2
  refine ⟨fun h => absurd h (by decide), ?_⟩
  refine plan_one rfl (fun K hK => ?_)
  go_wp2
  refine ⟨fun h => absurd h (by decide), ?_⟩
  have HR3 := Lib.hid (heap_setCell_same w2 d 0 C ty (.slice B2 n2 c2) HR2.out)
  have z3 := frozen_of_row _ d 1 _ _ HR3.out
  have k3 := HD.out.at2 HR3.out
  unfold wpPlan
  go_wp2
  refine bodyPost_end (results_none rfl _ _ _) rfl ?_
  have o2 : Only (fun k => k = d ∨ f.ownBlock = some k) w ((w2.setCell ⟨d, 0, none⟩ (.slice B2 n2 c2)).setCell ⟨d, 1, none⟩ (.slice none 0 0)) := ((Only.of_grown HG2.out (fun k e => .inr e)).trans (Only.of_grown (grown_set w2 d 0 _) (fun k e => by injection e with e; exact .inl e.symm))).trans (Only.of_grown (grown_set _ d 1 _) (fun k e => by injection e with e; exact .inl e.symm))
  have o3 : Only (fun k => k = d) w2 ((w2.setCell ⟨d, 0, none⟩ (.slice B2 n2 c2)).setCell ⟨d, 1, none⟩ (.slice none 0 0)) := (Only.of_grown (grown_set w2 d 0 _) (fun k e => by injection e with e; exact e.symm)).trans (Only.of_grown (grown_set _ d 1 _) (fun k e => by injection e with e; exact e.symm))
  have nd2 : (Value.slice B2 n2 c2).ownBlock ≠ some d := by
    rcases HB2.out with e | e
    · rw [e]; exact HD.out.nf
    · intro e2; have h1 : w.heap.size ≤ d := e d e2; have := row_lt HD.out.row; omega
  exact ⟨rfl, o2, _, heap_setCell_same _ d 1 _ ty _ HR3.out, HM2.out.only o3 (fun k hk e => nd2 (by rw [← e]; exact hk)), nd2, HB2.out⟩
end Go.Proofs.Ytfbnckecfapakaa

/-
  Part 10 of the texts that the seat's proofs stand on; each part of it begins with its own sentence and conditions. Conditions: those that each theorem names.
-/
import Derived.Test.YthbfodmpoheahaaDoorBindsPack9

/-
  The law MerkleBinds, walked, under what the functions of layers 10 and 11 and the document's Of are to do. Conditions: none but that at is a number of 64 bits.
-/
namespace Go.Proofs.YthbfodmpoheahaaDoor
open Go.RowKit
open Pol (co Sm)

theorem binds_alike (l k : List (List Nat)) (t : List Nat) (i : Nat) (ps : List (List Nat)) (he : mroot sha k = mroot sha l) (hne : l ≠ k) :
    ∃ x ∈ digd l k t i ps, ∃ y ∈ digd l k t i ps, sha x = sha y ∧ x ≠ y := by
  obtain ⟨x, hx, y, hy, e⟩ := bind_roots sha_len l.length l k (Nat.le_refl _) he.symm hne
  exact ⟨x, by unfold digd; simp [hx], y, by unfold digd; simp [hy], e⟩
theorem binds_wrong (l k : List (List Nat)) (t : List Nat) (i : Int) (qs : List (List Nat)) (hq : ∀ x ∈ qs, x.length = 32) (h : shw (mroot sha l) t i (l.length : Int) qs = true) :
    ∃ j : Nat, i = (j : Int) ∧ j < l.length ∧ (ro l j ≠ t → ∃ x ∈ digd l k t i.toNat qs, ∃ y ∈ digd l k t i.toNat qs, sha x = sha y ∧ x ≠ y) := by
  obtain ⟨h0, h1, _, h3⟩ := of_decide_eq_true h
  rw [Int.toNat_natCast] at h3
  refine ⟨i.toNat, by omega, by omega, fun hne => ?_⟩
  obtain ⟨x, hx, y, hy, e⟩ := bind_path sha_len l.length l i.toNat (ro l i.toNat) t qs (Nat.le_refl _) (get_ro (by omega)) hq h3 hne
  exact ⟨x, by unfold digd; simp [hx], y, by unfold digd; simp [hy], e⟩
set_option maxHeartbeats 12800000 in
set_option maxRecDepth 100000 in
theorem binds11_walk (S : ShaOH) (C : MerkleSaid) (R : RefOf) (rows mows : List (List Nat)) (t : List Nat) (at' : Int) (hat : at' < 9223372036854775808) (ps : List (List Nat)) (own : Bool) (A A2 AT B : Option Addr) (c c2 ct cb : Nat) (w : World) (hgl : GL w) (hr : RRd w A rows) (hc : rows.length ≤ c) (hl : rows.length ≤ maxLen)
    (hr2 : RRd w A2 mows) (hc2 : mows.length ≤ c2) (hl2 : mows.length ≤ maxLen) (ht : Rd w AT t) (htc : t.length ≤ ct) (hp : DRd w B ps) (hpc : ps.length ≤ cb) :
    Calls Tryd.prog 6 #[.slice A rows.length c, .slice A2 mows.length c2, .slice AT t.length ct, .int .i64 at', .slice B ps.length cb, .bool own] w (Holds w) := by
  have HAW := Lib.hid (fun W (h : Ext w W) => awake11 S C W (hgl.ext h))
  have HFW := Lib.hid (fun W (h : Ext w W) => few11 rows A c W (hr.ext h) hl)
  have HFW2 := Lib.hid (fun W (h : Ext w W) => few11 mows A2 c2 W (hr2.ext h) hl2)
  have hls := fun (h : fewQ rows) => show ∀ i, i < rows.length → (ro rows i).length ≤ 32768 from fun i hi => Nat.le_trans (h.2 i hi) (by decide)
  have hls2 := fun (h : fewQ mows) => show ∀ i, i < mows.length → (ro mows i).length ≤ 32768 from fun i hi => Nat.le_trans (h.2 i hi) (by decide)
  have HRT := Lib.hid (fun (h : fewQ rows) W (hx : Ext w W) => C.root rows A c W (hgl.ext hx) (hr.ext hx) hc (by have := h.1; omega) (hls h))
  have HRK := Lib.hid (fun (h : fewQ mows) W (hx : Ext w W) => C.root mows A2 c2 W (hgl.ext hx) (hr2.ext hx) hc2 (by have := h.1; omega) (hls2 h))
  have HRP := Lib.hid (fun (h : fewQ rows) i (hi : i < rows.length) W (hx : Ext w W) => ref11_proof R 4096 rows i A c W (by have := h.1; omega) hi (hr.ext hx) hc (by have := h.1; omega) (hls h))
  have HDB := Lib.hid (fun (h : fewQ rows) i => dep_big rows i h.1)
  have HPD := Lib.hid hp
  have HPC := Lib.hid hpc
  have HSC0 := Lib.hid (fun (h20 : t.length ≤ 20) W qs D k (hx : Ext w W) (hq : DRd W D qs) (hk : qs.length ≤ k ∧ qs.length ≤ 64) => C.shows (mroot sha rows) t at' (rows.length : Int) qs AT D ct k W (hgl.ext hx) (mroot_32 _) (mroot_sm _) (ht.ext hx) htc (by omega) hq hk.1 (by omega))
  have HLI := Lib.hid (fun (h : fewQ rows) W (hx : Ext w W) => lists9 rows mows A A2 c c2 W (hr.ext hx) (hr2.ext hx) (by have := h.1; omega) (fun i hi => Nat.le_trans (hls h i hi) (by decide)))
  have HLO := Lib.hid (fun (h : fewQ rows) j (hj : j < rows.length) D1 D2 W (h1 : RRd W D1 [ro rows j]) (h2 : RRd W D2 [t]) => show Calls Tryd.prog 18 #[.slice D1 1 1, .slice D2 1 1] W (Hands (.bool (decide ([ro rows j] = [t]))) W) from lists9 [ro rows j] [t] D1 D2 1 1 W h1 h2 (by simp) (fun q hq => by
    have hq0 : q = 0 := by simpa using hq
    subst hq0
    exact Nat.le_trans (hls h j hj) (by decide)))
  have HTS := Lib.hid (fun W (h : Ext w W) => show Sl W (.slice AT t.length ct) t from ⟨AT, ct, rfl, htc, ht.ext h⟩)
  have HRO := Lib.hid (fun i (hi : i < rows.length) => hr i hi)
  have HCL := Lib.hid (fun (h : fewQ rows) (h2 : fewQ mows) (h20 : t.length ≤ 20) W qs D k (hx : Ext w W) (hq : DRd W D qs) (hk : qs.length ≤ k ∧ qs.length ≤ 64) => clash_tells R rows mows t at' qs A A2 AT D c c2 ct k W
    { lr := hr.ext hx, lc := hc, ln := by have := h.1; omega, ls := hls h, kr := hr2.ext hx, kc := hc2, kn := by have := h2.1; omega, ks := hls2 h2, tr := ht.ext hx, tc := htc, ts := by omega, pr := hq, pc := hk.1, pn := by omega, ib := hat })
  have HLB := Lib.hid (fun (W : World) (g : Nat) (h : W.heap[g]? = some (.cells (bt 32 (co (mroot sha rows))) 30 (0, 0))) => load_blk W g (mroot sha rows) 30 (0, 0) h)
  have HVR := Lib.hid (bt_dgc (mroot sha rows))
  have HQ := Lib.hid (fun W => run_eq_dgc (bt_dgc (mroot sha mows)) (bt_dgc (mroot sha rows)) (mroot_32 _) (mroot_32 _) (mroot_sm _) (mroot_sm _) W)
  have HBA := Lib.hid (fun (qs : List (List Nat)) => binds_alike rows mows t at'.toNat qs)
  have HBW := Lib.hid (fun (qs : List (List Nat)) => binds_wrong rows mows t at' qs)
  have hz := zero_digest.1
  have HZ32 := Lib.hid (fun (_ : Unit) => show (bt 32 fun _ => 0).size = 32 from bt_size _ _)
  obtain ⟨Z, hZ⟩ : ∃ Z, (bt 32 fun _ => 0) = Z := ⟨_, rfl⟩
  rw [hZ] at hz HZ32
  obtain ⟨n, hn⟩ : ∃ n, rows.length = n := ⟨_, rfl⟩
  have HNN := Lib.hid hn
  obtain ⟨nm, hnm⟩ : ∃ n, mows.length = n := ⟨_, rfl⟩
  obtain ⟨T, hT⟩ : ∃ T, t.length = T := ⟨_, rfl⟩
  obtain ⟨p, hpp⟩ : ∃ p, ps.length = p := ⟨_, rfl⟩
  have HPP := Lib.hid hpp
  rw [hn] at HFW HRT HRP HSC0 HLI HLO HRO HCL HBW ⊢
  rw [hnm] at HFW2 HRK HLI HCL ⊢
  rw [hT] at HSC0 HCL HTS ⊢
  rw [hpp] at HPC ⊢
  unfold DOwn at HRP
  unfold dgv at HRT HRK HSC0 HLB
  obtain ⟨MR, hMR⟩ : ∃ m, mroot sha rows = m := ⟨_, rfl⟩
  obtain ⟨MK, hMK⟩ : ∃ m, mroot sha mows = m := ⟨_, rfl⟩
  rw [hMR] at HRT HSC0 HLB HVR HQ HBA HBW
  rw [hMK] at HRK HQ HBA
  obtain ⟨VR, hVR⟩ : ∃ V, bt 32 (co MR) = V := ⟨_, rfl⟩
  rw [hVR] at HRT HSC0 HLB HVR HQ
  obtain ⟨VK, hVK⟩ : ∃ V, bt 32 (co MK) = V := ⟨_, rfl⟩
  rw [hVK] at HRK HQ
  clear hgl hr hc hl hr2 hc2 hl2 hls hls2 hn hnm hVR hVK hMR hMK hZ ht htc hp hpc hT hpp hat
  go_enter Tryd.func6, Tryd.ntmps6
  go_wp2_with fail
  refine (HAW.out _ (Ext.refl w)).mono ?_
  rintro e w1 ⟨rfl, hx1⟩
  have HX1 := Lib.hid hx1
  clear hx1
  go_wp2_with fail
  refine (HFW.out _ HX1.out).mono ?_
  rintro e w2 ⟨b, rfl, hq, rfl⟩
  cases b with
  | false =>
    clear hq
    go_wp2_with fail
    refine (HAW.out _ HX1.out).mono ?_
    rintro e w3 ⟨rfl, hx3⟩
    have HX3 := Lib.hid (HX1.out.trans hx3)
    clear hx3
    go_wp2
    go_ret
    exact ⟨rfl, HX3.out⟩
  | true =>
    have HF := Lib.hid (hq rfl)
    clear hq
    go_wp2_with fail
    refine (HFW2.out _ HX1.out).mono ?_
    rintro e w2 ⟨b, rfl, hq, rfl⟩
    cases b with
    | false =>
      clear hq
      go_wp2_with fail
      refine (HAW.out _ HX1.out).mono ?_
      rintro e w3 ⟨rfl, hx3⟩
      have HX3 := Lib.hid (HX1.out.trans hx3)
      clear hx3
      go_wp2
      go_ret
      exact ⟨rfl, HX3.out⟩
    | true =>
      have HF2 := Lib.hid (hq rfl)
      clear hq
      by_cases h20 : T ≤ 20
      · have d1 : decide ((T : Int) > 20) = false := decide_eq_false (by omega)
        have n1 : ¬ 20 < (T : Int) := by omega
        have HSC := Lib.hid (HSC0.out h20)
        have HCK := Lib.hid (HCL.out HF.out HF2.out h20)
        by_cases h24 : p ≤ 24
        · have d2 : decide ((p : Int) > 24) = false := decide_eq_false (by omega)
          have n2 : ¬ 24 < (p : Int) := by omega
          clear HSC0 HCL HFW HFW2
          cases own with
          | false =>
            go_wp2_with fail
            refine (HRT.out HF.out _ HX1.out).mono ?_
            rintro e w3 ⟨rfl, hx3⟩
            have HX3 := Lib.hid (HX1.out.trans hx3)
            clear hx3
            obtain ⟨gx, hgx⟩ : ∃ g, w3.heap.size = g := ⟨_, rfl⟩
            have HGX := Lib.hid (show (w3.alloc (.cells Z 30)).heap[gx]? = some (.cells Z 30 (0, 0)) from by rw [← hgx]; exact heap_alloc_new _ _)
            have HI := Lib.hid HVR.out.info
            have HO := Lib.hid HVR.out.one
            have HZZ := Lib.hid (show Z.size = VR.size from by rw [HVR.out.1]; exact HZ32.out ())
            have HX4 := Lib.hid (show Ext w ((w3.alloc (.cells Z 30)).setRow gx VR) from HX3.out.trans (Ext.setRow ((Ext.refl w3).alloc _) (by rw [← hgx]; exact Nat.le_refl _) VR))
            have HG4 := Lib.hid (setRow_heap _ gx _ VR _ _ HGX.out)
            go_wp2_with (with_reducible refine wpList_store_all rfl 30 (.tmp 13) (.tmp 40) rfl gx Z VR rfl rfl HGX.out HI.out HZZ.out HO.out ?_)
            obtain ⟨wz, hwz⟩ : ∃ W, W = ((w3.alloc (.cells Z 30)).setRow gx VR) := ⟨_, rfl⟩
            have HXZ := Lib.hid (show Ext w wz from by rw [hwz]; exact HX4.out)
            have HGZ := Lib.hid (show wz.heap[gx]? = some (.cells VR 30 (0, 0)) from by rw [hwz]; exact HG4.out)
            have HRZ := Lib.hid (show DRd wz B ps from by rw [hwz]; exact HPD.out.ext HX4.out)
            rw [← hwz]
            clear hwz
            have LD := Lib.hid (fun (W : World) (h : AfterH wz W) => show (Instr.loadAt 30 (.pointer (some ⟨gx, 0, none⟩))).run Tryd.prog W = .ok (.agg VR) W from HLB.out W gx (WBlk.ext' HGZ.out h))
            go_wp2
            obtain ⟨u, hu⟩ : ∃ u, wz.drew = u := ⟨_, rfl⟩
            have HXU := Lib.hid (show AfterH wz u from by rw [← hu]; exact (Ext.refl wz).drew)
            by_cases hab : MK = MR
            · skip
              have hq := HQ.out
              rw [decide_eq_true hab] at hq
              refine wp_region_plan (AfterH wz) [0, 1, 2, 3, 4, 5, 6, 7, 8, 9] (.yes 0 (.yes 2 (.one 1 (.yes 3 (.yes 4 (.yes 5 (.yes 6 (.one 7 (.yes 8 (.yes 9 (.one 10 .done))))))))))) (by kernel_rfl) (fun c a a' w e h => ⟨e ▸ h.1, h.2⟩) (by kernel_rfl) (by rw [hu]; exact HXU.out) ?_
              rw [hu]
              clear hu
              refine plan_yes rfl (fun K hK => ?_); go_simp; refine ⟨_, fun _ _ => rfl, hK _ ?_⟩; clear hK K
              refine plan_load rfl 30 (.tmp 13) rfl (.agg VR) (by rfl) (fun W hW => LD.out W hW) ?_
              refine plan_one rfl (fun K hK => ?_)
              go_wp2_with fail
              refine (HRK.out HF2.out _ (HXZ.out.trans HXU.out)).mono ?_
              rintro e u1 ⟨rfl, hx1⟩
              have HU1 := Lib.hid (show AfterH wz u1 from Ext.trans HXU.out hx1)
              clear hx1
              go_wp2
              refine ⟨by first | exact HU1.out | exact fun _ => HU1.out, ?_⟩
              refine plan_yes rfl (fun K hK => ?_); go_simp; refine ⟨_, fun _ _ => rfl, hK _ ?_⟩; clear hK K
              refine plan_yes rfl (fun K hK => ?_); go_simp; refine ⟨_, fun _ _ => rfl, hK _ ?_⟩; clear hK K
              refine plan_yes rfl (fun K hK => ?_); go_simp; refine ⟨_, fun _ _ => rfl, hK _ ?_⟩; clear hK K
              refine plan_yes rfl (fun K hK => ?_); go_simp; refine ⟨_, fun _ _ => rfl, hK _ ?_⟩; clear hK K
              obtain ⟨bl, hbl⟩ : ∃ b, decide (rows = mows) = b := ⟨_, rfl⟩
              have HLL := Lib.hid (HLI.out HF.out u1 (HXZ.out.trans HU1.out))
              rw [hbl] at HLL
              refine plan_one rfl (fun K hK => ?_)
              go_wp2_with fail
              refine HLL.out.mono ?_
              rintro e u2 ⟨rfl, q2, rfl⟩
              have HU2 := Lib.hid (show AfterH wz (u1.drewN q2) from Ext.drewN HU1.out q2)
              go_wp2
              refine ⟨by first | exact HU2.out | exact fun _ => HU2.out, ?_⟩
              generalize u1.drewN q2 = u2 at HU2 ⊢
              clear HLL
              cases bl with
              | true =>
                clear hbl
                refine plan_yes rfl (fun K hK => ?_); go_simp; refine ⟨_, fun _ _ => rfl, hK _ ?_⟩; clear hK K
                refine plan_yes rfl (fun K hK => ?_); go_simp; refine ⟨_, fun _ _ => rfl, hK _ ?_⟩; clear hK K
                refine plan_one rfl (fun K hK => ?_)
                go_wp2
                refine ⟨fun h => absurd h (by decide), ?_⟩
                unfold wpPlan
                have HX6 := Lib.hid (HXZ.out.trans HU2.out)
                have HG6 := Lib.hid (WBlk.ext' HGZ.out HU2.out)
                have HR6 := Lib.hid (HRZ.out.ext HU2.out)
                have HLW := Lib.hid (HLB.out u2 gx HG6.out)
                have HS7 := Lib.hid (HSC.out u2 ps B cb HX6.out HR6.out ⟨by have := HPC.out; have := HPP.out; omega, by have := HPP.out; omega⟩)
                rw [HPP.out] at HS7
                obtain ⟨sb, hsb⟩ : ∃ b, shw MR t at' (n : Int) ps = b := ⟨_, rfl⟩
                rw [hsb] at HS7
                go_wp2_with (first | (with_reducible refine wpList_load_row rfl 30 (.tmp 13) rfl gx rfl 30 VR (0, 0) _ HG6.out Tryd.underlying30 rfl HI.out ?_) | (refine wpList_load_row_g (by rfl) 30 (.tmp 13) rfl gx rfl 30 VR (0, 0) _ HG6.out Tryd.underlying30 rfl HI.out ?_))
                refine HS7.out.mono ?_
                rintro e w7 ⟨rfl, hx7⟩
                have HX7 := Lib.hid (HX6.out.trans hx7)
                have HR7 := Lib.hid (HR6.out.ext hx7)
                clear hx7
                cases sb with
                | false =>
                  clear hsb
                  go_wp2
                  go_ret
                  exact ⟨rfl, HX7.out⟩
                | true =>
                  obtain ⟨j, hj, hjn, hcl⟩ := HBW.out ps HR6.out.1 hsb
                  subst hj
                  have HJN := Lib.hid hjn
                  have HJC := Lib.hid hcl
                  obtain ⟨b1, o1, R1, c1, hA1, hc1, hl1, hr1⟩ := HRO.out j hjn
                  subst hA1
                  have HC1 := Lib.hid ((HX7.out.below.cell (p := ⟨b1, o1 + j, none⟩) (block_lt_of_cell hc1)).trans hc1)
                  have HS1 := Lib.hid (fun W (h : Ext w W) => show Sl W (.slice R1 (ro rows j).length c1) (ro rows j) from ⟨R1, c1, rfl, hl1, hr1.ext h⟩)
                  have HLS := Lib.hid (HLO.out HF.out j hjn)
                  have k1 : decide ((j : Int) < 0) = false := decide_eq_false (by omega)
                  have k2 : ¬ (j : Int) < 0 := by omega
                  have k3 : decide ((j : Int) ≥ (n : Int)) = false := decide_eq_false (by omega)
                  have k4 : ¬ (n : Int) ≤ (j : Int) := by omega
                  have k5 : (j : Int) < (n : Int) := by omega
                  have k6 : (0 : Int) ≤ (j : Int) := by omega
                  obtain ⟨s1, hs1⟩ : ∃ s, ro rows j = s := ⟨_, rfl⟩
                  rw [hs1] at HC1 HS1 HLS HJC
                  obtain ⟨bb, hbb⟩ : ∃ b, decide ([s1] = [t]) = b := ⟨_, rfl⟩
                  have HBB := Lib.hid (fun (_ : Unit) => hbb)
                  rw [hbb] at HLS
                  obtain ⟨n1', hn1'⟩ : ∃ n, s1.length = n := ⟨_, rfl⟩
                  rw [hn1'] at HC1 HS1
                  have hc7 := HC1.out
                  have HB1 := Lib.hid (rrd_lit w7 [.slice R1 n1' c1] [s1] (rowsV_one (HS1.out _ HX7.out)))
                  have HX8 := Lib.hid (HX7.out.alloc (.cells #[.slice R1 n1' c1] 35))
                  have HB2 := Lib.hid (rrd_lit (w7.alloc (.cells #[.slice R1 n1' c1] 35)) [.slice AT T ct] [t] (rowsV_one (HTS.out _ HX8.out)))
                  have HX9 := Lib.hid (HX8.out.alloc (.cells #[.slice AT T ct] 35))
                  have HB19 := Lib.hid (HB1.out.ext ((Ext.refl _).alloc (.cells #[.slice AT T ct] 35)))
                  have HR9 := Lib.hid (HR7.out.ext (((Ext.refl w7).alloc (.cells #[.slice R1 n1' c1] 35)).alloc (.cells #[.slice AT T ct] 35)))
                  have HSZ := Lib.hid (show (w7.alloc (.cells #[.slice R1 n1' c1] 35)).heap.size = w7.heap.size + 1 from by simp)
                  rw [HSZ.out] at HB2
                  clear hsb hjn hcl hc1 hl1 hr1 hs1 hbb hn1'
                  go_wp2_with fail
                  refine (HLS.out _ _ _ HB19.out HB2.out).mono ?_
                  rintro e w10 ⟨rfl, q10, rfl⟩
                  have HX10 := Lib.hid (HX9.out.drewN q10)
                  have HR10 := Lib.hid (HR9.out.ext ((Ext.refl _).drewN q10))
                  generalize ((w7.alloc (.cells #[.slice R1 n1' c1] 35)).alloc (.cells #[.slice AT T ct] 35)).drewN q10 = w10 at HX10 HR10 ⊢
                  cases bb with
                  | true =>
                    go_wp2
                    go_ret
                    exact ⟨rfl, HX10.out⟩
                  | false =>
                    have HCF := Lib.hid (HCK.out w10 ps B cb HX10.out HR10.out ⟨by have := HPC.out; have := HPP.out; omega, by have := HPP.out; omega⟩)
                    rw [HPP.out] at HCF
                    go_wp2_with fail
                    refine (HCF.out (HJC.out (fun e => by have h := of_decide_eq_false (HBB.out ()); exact h (by rw [e])))).mono ?_
                    rintro e wf ⟨rfl, hxf⟩
                    have HXF := Lib.hid (HX10.out.trans hxf)
                    clear hxf
                    go_wp2
                    go_ret
                    exact ⟨rfl, HXF.out⟩
              | false =>
                have HAL := Lib.hid (HBA.out ps hab (of_decide_eq_false hbl))
                clear hbl
                refine plan_yes rfl (fun K hK => ?_); go_simp; refine ⟨_, fun _ _ => rfl, hK _ ?_⟩; clear hK K
                refine plan_yes rfl (fun K hK => ?_); go_simp; refine ⟨_, fun _ _ => rfl, hK _ ?_⟩; clear hK K
                refine plan_one rfl (fun K hK => ?_)
                go_wp2
                refine ⟨fun h => absurd h (by decide), ?_⟩
                unfold wpPlan
                have HX6 := Lib.hid (HXZ.out.trans HU2.out)
                have HG6 := Lib.hid (WBlk.ext' HGZ.out HU2.out)
                have HR6 := Lib.hid (HRZ.out.ext HU2.out)
                have HLW := Lib.hid (HLB.out u2 gx HG6.out)
                have HS7 := Lib.hid (HSC.out u2 ps B cb HX6.out HR6.out ⟨by have := HPC.out; have := HPP.out; omega, by have := HPP.out; omega⟩)
                rw [HPP.out] at HS7
                obtain ⟨sb, hsb⟩ : ∃ b, shw MR t at' (n : Int) ps = b := ⟨_, rfl⟩
                rw [hsb] at HS7
                go_wp2_with (first | (with_reducible refine wpList_load_row rfl 30 (.tmp 13) rfl gx rfl 30 VR (0, 0) _ HG6.out Tryd.underlying30 rfl HI.out ?_) | (refine wpList_load_row_g (by rfl) 30 (.tmp 13) rfl gx rfl 30 VR (0, 0) _ HG6.out Tryd.underlying30 rfl HI.out ?_))
                refine HS7.out.mono ?_
                rintro e w7 ⟨rfl, hx7⟩
                have HX7 := Lib.hid (HX6.out.trans hx7)
                have HR7 := Lib.hid (HR6.out.ext hx7)
                clear hx7
                cases sb with
                | false =>
                  clear hsb
                  have HCF := Lib.hid (HCK.out w7 ps B cb HX7.out HR7.out ⟨by have := HPC.out; have := HPP.out; omega, by have := HPP.out; omega⟩)
                  rw [HPP.out] at HCF
                  go_wp2_with fail
                  refine (HCF.out (HAL.out)).mono ?_
                  rintro e wf ⟨rfl, hxf⟩
                  have HXF := Lib.hid (HX7.out.trans hxf)
                  clear hxf
                  go_wp2
                  go_ret
                  exact ⟨rfl, HXF.out⟩
                | true =>
                  obtain ⟨j, hj, hjn, hcl⟩ := HBW.out ps HR6.out.1 hsb
                  subst hj
                  have HJN := Lib.hid hjn
                  have HJC := Lib.hid hcl
                  obtain ⟨b1, o1, R1, c1, hA1, hc1, hl1, hr1⟩ := HRO.out j hjn
                  subst hA1
                  have HC1 := Lib.hid ((HX7.out.below.cell (p := ⟨b1, o1 + j, none⟩) (block_lt_of_cell hc1)).trans hc1)
                  have HS1 := Lib.hid (fun W (h : Ext w W) => show Sl W (.slice R1 (ro rows j).length c1) (ro rows j) from ⟨R1, c1, rfl, hl1, hr1.ext h⟩)
                  have HLS := Lib.hid (HLO.out HF.out j hjn)
                  have k1 : decide ((j : Int) < 0) = false := decide_eq_false (by omega)
                  have k2 : ¬ (j : Int) < 0 := by omega
                  have k3 : decide ((j : Int) ≥ (n : Int)) = false := decide_eq_false (by omega)
                  have k4 : ¬ (n : Int) ≤ (j : Int) := by omega
                  have k5 : (j : Int) < (n : Int) := by omega
                  have k6 : (0 : Int) ≤ (j : Int) := by omega
                  obtain ⟨s1, hs1⟩ : ∃ s, ro rows j = s := ⟨_, rfl⟩
                  rw [hs1] at HC1 HS1 HLS HJC
                  obtain ⟨bb, hbb⟩ : ∃ b, decide ([s1] = [t]) = b := ⟨_, rfl⟩
                  have HBB := Lib.hid (fun (_ : Unit) => hbb)
                  rw [hbb] at HLS
                  obtain ⟨n1', hn1'⟩ : ∃ n, s1.length = n := ⟨_, rfl⟩
                  rw [hn1'] at HC1 HS1
                  have hc7 := HC1.out
                  have HB1 := Lib.hid (rrd_lit w7 [.slice R1 n1' c1] [s1] (rowsV_one (HS1.out _ HX7.out)))
                  have HX8 := Lib.hid (HX7.out.alloc (.cells #[.slice R1 n1' c1] 35))
                  have HB2 := Lib.hid (rrd_lit (w7.alloc (.cells #[.slice R1 n1' c1] 35)) [.slice AT T ct] [t] (rowsV_one (HTS.out _ HX8.out)))
                  have HX9 := Lib.hid (HX8.out.alloc (.cells #[.slice AT T ct] 35))
                  have HB19 := Lib.hid (HB1.out.ext ((Ext.refl _).alloc (.cells #[.slice AT T ct] 35)))
                  have HR9 := Lib.hid (HR7.out.ext (((Ext.refl w7).alloc (.cells #[.slice R1 n1' c1] 35)).alloc (.cells #[.slice AT T ct] 35)))
                  have HSZ := Lib.hid (show (w7.alloc (.cells #[.slice R1 n1' c1] 35)).heap.size = w7.heap.size + 1 from by simp)
                  rw [HSZ.out] at HB2
                  clear hsb hjn hcl hc1 hl1 hr1 hs1 hbb hn1'
                  go_wp2_with fail
                  refine (HLS.out _ _ _ HB19.out HB2.out).mono ?_
                  rintro e w10 ⟨rfl, q10, rfl⟩
                  have HX10 := Lib.hid (HX9.out.drewN q10)
                  have HR10 := Lib.hid (HR9.out.ext ((Ext.refl _).drewN q10))
                  generalize ((w7.alloc (.cells #[.slice R1 n1' c1] 35)).alloc (.cells #[.slice AT T ct] 35)).drewN q10 = w10 at HX10 HR10 ⊢
                  cases bb with
                  | true =>
                    have HCF := Lib.hid (HCK.out w10 ps B cb HX10.out HR10.out ⟨by have := HPC.out; have := HPP.out; omega, by have := HPP.out; omega⟩)
                    rw [HPP.out] at HCF
                    go_wp2_with fail
                    refine (HCF.out (HAL.out)).mono ?_
                    rintro e wf ⟨rfl, hxf⟩
                    have HXF := Lib.hid (HX10.out.trans hxf)
                    clear hxf
                    go_wp2
                    go_ret
                    exact ⟨rfl, HXF.out⟩
                  | false =>
                    have HCF := Lib.hid (HCK.out w10 ps B cb HX10.out HR10.out ⟨by have := HPC.out; have := HPP.out; omega, by have := HPP.out; omega⟩)
                    rw [HPP.out] at HCF
                    go_wp2_with fail
                    refine (HCF.out (HJC.out (fun e => by have h := of_decide_eq_false (HBB.out ()); exact h (by rw [e])))).mono ?_
                    rintro e wf ⟨rfl, hxf⟩
                    have HXF := Lib.hid (HX10.out.trans hxf)
                    clear hxf
                    go_wp2
                    go_ret
                    exact ⟨rfl, HXF.out⟩
            · skip
              have hq := HQ.out
              rw [decide_eq_false hab] at hq
              refine wp_region_plan (AfterH wz) [0, 1, 2, 3, 4, 5, 6, 7, 8, 9] (.yes 0 (.yes 2 (.one 1 (.yes 3 (.yes 4 (.yes 5 (.yes 6 (.yes 7 (.yes 8 (.yes 9 (.one 10 .done))))))))))) (by kernel_rfl) (fun c a a' w e h => ⟨e ▸ h.1, h.2⟩) (by kernel_rfl) (by rw [hu]; exact HXU.out) ?_
              rw [hu]
              clear hu
              refine plan_yes rfl (fun K hK => ?_); go_simp; refine ⟨_, fun _ _ => rfl, hK _ ?_⟩; clear hK K
              refine plan_load rfl 30 (.tmp 13) rfl (.agg VR) (by rfl) (fun W hW => LD.out W hW) ?_
              refine plan_one rfl (fun K hK => ?_)
              go_wp2_with fail
              refine (HRK.out HF2.out _ (HXZ.out.trans HXU.out)).mono ?_
              rintro e u1 ⟨rfl, hx1⟩
              have HU1 := Lib.hid (show AfterH wz u1 from Ext.trans HXU.out hx1)
              clear hx1
              go_wp2
              refine ⟨by first | exact HU1.out | exact fun _ => HU1.out, ?_⟩
              refine plan_yes rfl (fun K hK => ?_); go_simp; refine ⟨_, fun _ _ => rfl, hK _ ?_⟩; clear hK K
              refine plan_yes rfl (fun K hK => ?_); go_simp; refine ⟨_, fun _ _ => rfl, hK _ ?_⟩; clear hK K
              refine plan_no rfl (fun K hK => ?_); go_simp; refine hK _ ?_; clear hK K
              refine plan_no rfl (fun K hK => ?_); go_simp; refine hK _ ?_; clear hK K
              refine plan_no rfl (fun K hK => ?_); go_simp; refine hK _ ?_; clear hK K
              refine plan_no rfl (fun K hK => ?_); go_simp; refine hK _ ?_; clear hK K
              refine plan_yes rfl (fun K hK => ?_); go_simp; refine ⟨_, fun _ _ => rfl, hK _ ?_⟩; clear hK K
              refine plan_one rfl (fun K hK => ?_)
              go_wp2
              refine ⟨fun h => absurd h (by decide), ?_⟩
              unfold wpPlan
              have HX6 := Lib.hid (HXZ.out.trans HU1.out)
              have HG6 := Lib.hid (WBlk.ext' HGZ.out HU1.out)
              have HR6 := Lib.hid (HRZ.out.ext HU1.out)
              have HLW := Lib.hid (HLB.out u1 gx HG6.out)
              have HS7 := Lib.hid (HSC.out u1 ps B cb HX6.out HR6.out ⟨by have := HPC.out; have := HPP.out; omega, by have := HPP.out; omega⟩)
              rw [HPP.out] at HS7
              obtain ⟨sb, hsb⟩ : ∃ b, shw MR t at' (n : Int) ps = b := ⟨_, rfl⟩
              rw [hsb] at HS7
              go_wp2_with (first | (with_reducible refine wpList_load_row rfl 30 (.tmp 13) rfl gx rfl 30 VR (0, 0) _ HG6.out Tryd.underlying30 rfl HI.out ?_) | (refine wpList_load_row_g (by rfl) 30 (.tmp 13) rfl gx rfl 30 VR (0, 0) _ HG6.out Tryd.underlying30 rfl HI.out ?_))
              refine HS7.out.mono ?_
              rintro e w7 ⟨rfl, hx7⟩
              have HX7 := Lib.hid (HX6.out.trans hx7)
              have HR7 := Lib.hid (HR6.out.ext hx7)
              clear hx7
              cases sb with
              | false =>
                clear hsb
                go_wp2
                go_ret
                exact ⟨rfl, HX7.out⟩
              | true =>
                obtain ⟨j, hj, hjn, hcl⟩ := HBW.out ps HR6.out.1 hsb
                subst hj
                have HJN := Lib.hid hjn
                have HJC := Lib.hid hcl
                obtain ⟨b1, o1, R1, c1, hA1, hc1, hl1, hr1⟩ := HRO.out j hjn
                subst hA1
                have HC1 := Lib.hid ((HX7.out.below.cell (p := ⟨b1, o1 + j, none⟩) (block_lt_of_cell hc1)).trans hc1)
                have HS1 := Lib.hid (fun W (h : Ext w W) => show Sl W (.slice R1 (ro rows j).length c1) (ro rows j) from ⟨R1, c1, rfl, hl1, hr1.ext h⟩)
                have HLS := Lib.hid (HLO.out HF.out j hjn)
                have k1 : decide ((j : Int) < 0) = false := decide_eq_false (by omega)
                have k2 : ¬ (j : Int) < 0 := by omega
                have k3 : decide ((j : Int) ≥ (n : Int)) = false := decide_eq_false (by omega)
                have k4 : ¬ (n : Int) ≤ (j : Int) := by omega
                have k5 : (j : Int) < (n : Int) := by omega
                have k6 : (0 : Int) ≤ (j : Int) := by omega
                obtain ⟨s1, hs1⟩ : ∃ s, ro rows j = s := ⟨_, rfl⟩
                rw [hs1] at HC1 HS1 HLS HJC
                obtain ⟨bb, hbb⟩ : ∃ b, decide ([s1] = [t]) = b := ⟨_, rfl⟩
                have HBB := Lib.hid (fun (_ : Unit) => hbb)
                rw [hbb] at HLS
                obtain ⟨n1', hn1'⟩ : ∃ n, s1.length = n := ⟨_, rfl⟩
                rw [hn1'] at HC1 HS1
                have hc7 := HC1.out
                have HB1 := Lib.hid (rrd_lit w7 [.slice R1 n1' c1] [s1] (rowsV_one (HS1.out _ HX7.out)))
                have HX8 := Lib.hid (HX7.out.alloc (.cells #[.slice R1 n1' c1] 35))
                have HB2 := Lib.hid (rrd_lit (w7.alloc (.cells #[.slice R1 n1' c1] 35)) [.slice AT T ct] [t] (rowsV_one (HTS.out _ HX8.out)))
                have HX9 := Lib.hid (HX8.out.alloc (.cells #[.slice AT T ct] 35))
                have HB19 := Lib.hid (HB1.out.ext ((Ext.refl _).alloc (.cells #[.slice AT T ct] 35)))
                have HR9 := Lib.hid (HR7.out.ext (((Ext.refl w7).alloc (.cells #[.slice R1 n1' c1] 35)).alloc (.cells #[.slice AT T ct] 35)))
                have HSZ := Lib.hid (show (w7.alloc (.cells #[.slice R1 n1' c1] 35)).heap.size = w7.heap.size + 1 from by simp)
                rw [HSZ.out] at HB2
                clear hsb hjn hcl hc1 hl1 hr1 hs1 hbb hn1'
                go_wp2_with fail
                refine (HLS.out _ _ _ HB19.out HB2.out).mono ?_
                rintro e w10 ⟨rfl, q10, rfl⟩
                have HX10 := Lib.hid (HX9.out.drewN q10)
                have HR10 := Lib.hid (HR9.out.ext ((Ext.refl _).drewN q10))
                generalize ((w7.alloc (.cells #[.slice R1 n1' c1] 35)).alloc (.cells #[.slice AT T ct] 35)).drewN q10 = w10 at HX10 HR10 ⊢
                cases bb with
                | true =>
                  go_wp2
                  go_ret
                  exact ⟨rfl, HX10.out⟩
                | false =>
                  have HCF := Lib.hid (HCK.out w10 ps B cb HX10.out HR10.out ⟨by have := HPC.out; have := HPP.out; omega, by have := HPP.out; omega⟩)
                  rw [HPP.out] at HCF
                  go_wp2_with fail
                  refine (HCF.out (HJC.out (fun e => by have h := of_decide_eq_false (HBB.out ()); exact h (by rw [e])))).mono ?_
                  rintro e wf ⟨rfl, hxf⟩
                  have HXF := Lib.hid (HX10.out.trans hxf)
                  clear hxf
                  go_wp2
                  go_ret
                  exact ⟨rfl, HXF.out⟩
          | true =>
            by_cases hin : 0 ≤ at' ∧ at' < (n : Int)
            · obtain ⟨i, rfl⟩ : ∃ i : Nat, at' = (i : Int) := ⟨at'.toNat, by omega⟩
              have hi : i < n := by omega
              have HP := Lib.hid (HRP.out HF.out i hi)
              have HL := Lib.hid (HDB.out HF.out i)
              have d3 : decide ((i : Int) ≥ 0) = true := decide_eq_true (by omega)
              have n3 : 0 ≤ (i : Int) := by omega
              have d4 : decide ((i : Int) < (n : Int)) = true := decide_eq_true (by omega)
              have n4 : (i : Int) < (n : Int) := by omega
              clear hin hi
              go_wp2_with fail
              refine (HRT.out HF.out _ HX1.out).mono ?_
              rintro e w3 ⟨rfl, hx3⟩
              have HX3 := Lib.hid (HX1.out.trans hx3)
              clear hx3
              obtain ⟨gx, hgx⟩ : ∃ g, w3.heap.size = g := ⟨_, rfl⟩
              have HGX := Lib.hid (show (w3.alloc (.cells Z 30)).heap[gx]? = some (.cells Z 30 (0, 0)) from by rw [← hgx]; exact heap_alloc_new _ _)
              have HI := Lib.hid HVR.out.info
              have HO := Lib.hid HVR.out.one
              have HZZ := Lib.hid (show Z.size = VR.size from by rw [HVR.out.1]; exact HZ32.out ())
              have HX4 := Lib.hid (show Ext w ((w3.alloc (.cells Z 30)).setRow gx VR) from HX3.out.trans (Ext.setRow ((Ext.refl w3).alloc _) (by rw [← hgx]; exact Nat.le_refl _) VR))
              have HG4 := Lib.hid (setRow_heap _ gx _ VR _ _ HGX.out)
              go_wp2_with (with_reducible refine wpList_store_all rfl 30 (.tmp 13) (.tmp 40) rfl gx Z VR rfl rfl HGX.out HI.out HZZ.out HO.out ?_)
              generalize (w3.alloc (.cells Z 30)).setRow gx VR = w4 at HX4 HG4 ⊢
              clear hgx
              refine (HP.out _ HX4.out).mono ?_
              rintro e w5 ⟨v, rfl, hm, hx5⟩
              have HX5 := Lib.hid (HX4.out.trans hx5)
              have HG5 := Lib.hid (WBlk.ext' HG4.out hx5)
              obtain ⟨B5, c5, rfl, hc5, hr5⟩ := hm.slice
              have HR5 := Lib.hid hr5
              have HC5 := Lib.hid hc5
              clear hm hx5 hc5 hr5
              obtain ⟨qs, hqs⟩ : ∃ q, mprf sha rows i = q := ⟨_, rfl⟩
              rw [hqs] at HR5 HC5 HL ⊢
              clear hqs
              obtain ⟨wz, hwz⟩ : ∃ W, W = w5 := ⟨_, rfl⟩
              have HXZ := Lib.hid (show Ext w wz from by rw [hwz]; exact HX5.out)
              have HGZ := Lib.hid (show wz.heap[gx]? = some (.cells VR 30 (0, 0)) from by rw [hwz]; exact HG5.out)
              have HRZ := Lib.hid (show DRd wz B5 qs from by rw [hwz]; exact HR5.out)
              rw [← hwz]
              clear hwz
              have LD := Lib.hid (fun (W : World) (h : AfterH wz W) => show (Instr.loadAt 30 (.pointer (some ⟨gx, 0, none⟩))).run Tryd.prog W = .ok (.agg VR) W from HLB.out W gx (WBlk.ext' HGZ.out h))
              go_wp2
              obtain ⟨u, hu⟩ : ∃ u, wz.drew = u := ⟨_, rfl⟩
              have HXU := Lib.hid (show AfterH wz u from by rw [← hu]; exact (Ext.refl wz).drew)
              by_cases hab : MK = MR
              · skip
                have hq := HQ.out
                rw [decide_eq_true hab] at hq
                refine wp_region_plan (AfterH wz) [0, 1, 2, 3, 4, 5, 6, 7, 8, 9] (.yes 0 (.yes 2 (.one 1 (.yes 3 (.yes 4 (.yes 5 (.yes 6 (.one 7 (.yes 8 (.yes 9 (.one 10 .done))))))))))) (by kernel_rfl) (fun c a a' w e h => ⟨e ▸ h.1, h.2⟩) (by kernel_rfl) (by rw [hu]; exact HXU.out) ?_
                rw [hu]
                clear hu
                refine plan_yes rfl (fun K hK => ?_); go_simp; refine ⟨_, fun _ _ => rfl, hK _ ?_⟩; clear hK K
                refine plan_load rfl 30 (.tmp 13) rfl (.agg VR) (by rfl) (fun W hW => LD.out W hW) ?_
                refine plan_one rfl (fun K hK => ?_)
                go_wp2_with fail
                refine (HRK.out HF2.out _ (HXZ.out.trans HXU.out)).mono ?_
                rintro e u1 ⟨rfl, hx1⟩
                have HU1 := Lib.hid (show AfterH wz u1 from Ext.trans HXU.out hx1)
                clear hx1
                go_wp2
                refine ⟨by first | exact HU1.out | exact fun _ => HU1.out, ?_⟩
                refine plan_yes rfl (fun K hK => ?_); go_simp; refine ⟨_, fun _ _ => rfl, hK _ ?_⟩; clear hK K
                refine plan_yes rfl (fun K hK => ?_); go_simp; refine ⟨_, fun _ _ => rfl, hK _ ?_⟩; clear hK K
                refine plan_yes rfl (fun K hK => ?_); go_simp; refine ⟨_, fun _ _ => rfl, hK _ ?_⟩; clear hK K
                refine plan_yes rfl (fun K hK => ?_); go_simp; refine ⟨_, fun _ _ => rfl, hK _ ?_⟩; clear hK K
                obtain ⟨bl, hbl⟩ : ∃ b, decide (rows = mows) = b := ⟨_, rfl⟩
                have HLL := Lib.hid (HLI.out HF.out u1 (HXZ.out.trans HU1.out))
                rw [hbl] at HLL
                refine plan_one rfl (fun K hK => ?_)
                go_wp2_with fail
                refine HLL.out.mono ?_
                rintro e u2 ⟨rfl, q2, rfl⟩
                have HU2 := Lib.hid (show AfterH wz (u1.drewN q2) from Ext.drewN HU1.out q2)
                go_wp2
                refine ⟨by first | exact HU2.out | exact fun _ => HU2.out, ?_⟩
                generalize u1.drewN q2 = u2 at HU2 ⊢
                clear HLL
                cases bl with
                | true =>
                  clear hbl
                  refine plan_yes rfl (fun K hK => ?_); go_simp; refine ⟨_, fun _ _ => rfl, hK _ ?_⟩; clear hK K
                  refine plan_yes rfl (fun K hK => ?_); go_simp; refine ⟨_, fun _ _ => rfl, hK _ ?_⟩; clear hK K
                  refine plan_one rfl (fun K hK => ?_)
                  go_wp2
                  refine ⟨fun h => absurd h (by decide), ?_⟩
                  unfold wpPlan
                  have HX6 := Lib.hid (HXZ.out.trans HU2.out)
                  have HG6 := Lib.hid (WBlk.ext' HGZ.out HU2.out)
                  have HR6 := Lib.hid (HRZ.out.ext HU2.out)
                  have HLW := Lib.hid (HLB.out u2 gx HG6.out)
                  have HS7 := Lib.hid (HSC.out u2 qs B5 c5 HX6.out HR6.out ⟨HC5.out, by have := HL.out; omega⟩)
                  obtain ⟨sb, hsb⟩ : ∃ b, shw MR t (i : Int) (n : Int) qs = b := ⟨_, rfl⟩
                  rw [hsb] at HS7
                  go_wp2_with (first | (with_reducible refine wpList_load_row rfl 30 (.tmp 13) rfl gx rfl 30 VR (0, 0) _ HG6.out Tryd.underlying30 rfl HI.out ?_) | (refine wpList_load_row_g (by rfl) 30 (.tmp 13) rfl gx rfl 30 VR (0, 0) _ HG6.out Tryd.underlying30 rfl HI.out ?_))
                  refine HS7.out.mono ?_
                  rintro e w7 ⟨rfl, hx7⟩
                  have HX7 := Lib.hid (HX6.out.trans hx7)
                  have HR7 := Lib.hid (HR6.out.ext hx7)
                  clear hx7
                  cases sb with
                  | false =>
                    clear hsb
                    go_wp2
                    go_ret
                    exact ⟨rfl, HX7.out⟩
                  | true =>
                    obtain ⟨j, hj, hjn, hcl⟩ := HBW.out qs HR6.out.1 hsb
                    obtain rfl : i = j := by omega
                    have HJN := Lib.hid hjn
                    have HJC := Lib.hid hcl
                    obtain ⟨b1, o1, R1, c1, hA1, hc1, hl1, hr1⟩ := HRO.out i hjn
                    subst hA1
                    have HC1 := Lib.hid ((HX7.out.below.cell (p := ⟨b1, o1 + i, none⟩) (block_lt_of_cell hc1)).trans hc1)
                    have HS1 := Lib.hid (fun W (h : Ext w W) => show Sl W (.slice R1 (ro rows i).length c1) (ro rows i) from ⟨R1, c1, rfl, hl1, hr1.ext h⟩)
                    have HLS := Lib.hid (HLO.out HF.out i hjn)
                    have k1 : decide ((i : Int) < 0) = false := decide_eq_false (by omega)
                    have k2 : ¬ (i : Int) < 0 := by omega
                    have k3 : decide ((i : Int) ≥ (n : Int)) = false := decide_eq_false (by omega)
                    have k4 : ¬ (n : Int) ≤ (i : Int) := by omega
                    have k5 : (i : Int) < (n : Int) := by omega
                    have k6 : (0 : Int) ≤ (i : Int) := by omega
                    obtain ⟨s1, hs1⟩ : ∃ s, ro rows i = s := ⟨_, rfl⟩
                    rw [hs1] at HC1 HS1 HLS HJC
                    obtain ⟨bb, hbb⟩ : ∃ b, decide ([s1] = [t]) = b := ⟨_, rfl⟩
                    have HBB := Lib.hid (fun (_ : Unit) => hbb)
                    rw [hbb] at HLS
                    obtain ⟨n1', hn1'⟩ : ∃ n, s1.length = n := ⟨_, rfl⟩
                    rw [hn1'] at HC1 HS1
                    have hc7 := HC1.out
                    have HB1 := Lib.hid (rrd_lit w7 [.slice R1 n1' c1] [s1] (rowsV_one (HS1.out _ HX7.out)))
                    have HX8 := Lib.hid (HX7.out.alloc (.cells #[.slice R1 n1' c1] 35))
                    have HB2 := Lib.hid (rrd_lit (w7.alloc (.cells #[.slice R1 n1' c1] 35)) [.slice AT T ct] [t] (rowsV_one (HTS.out _ HX8.out)))
                    have HX9 := Lib.hid (HX8.out.alloc (.cells #[.slice AT T ct] 35))
                    have HB19 := Lib.hid (HB1.out.ext ((Ext.refl _).alloc (.cells #[.slice AT T ct] 35)))
                    have HR9 := Lib.hid (HR7.out.ext (((Ext.refl w7).alloc (.cells #[.slice R1 n1' c1] 35)).alloc (.cells #[.slice AT T ct] 35)))
                    have HSZ := Lib.hid (show (w7.alloc (.cells #[.slice R1 n1' c1] 35)).heap.size = w7.heap.size + 1 from by simp)
                    rw [HSZ.out] at HB2
                    clear hsb hjn hcl hc1 hl1 hr1 hs1 hbb hn1'
                    go_wp2_with fail
                    refine (HLS.out _ _ _ HB19.out HB2.out).mono ?_
                    rintro e w10 ⟨rfl, q10, rfl⟩
                    have HX10 := Lib.hid (HX9.out.drewN q10)
                    have HR10 := Lib.hid (HR9.out.ext ((Ext.refl _).drewN q10))
                    generalize ((w7.alloc (.cells #[.slice R1 n1' c1] 35)).alloc (.cells #[.slice AT T ct] 35)).drewN q10 = w10 at HX10 HR10 ⊢
                    cases bb with
                    | true =>
                      go_wp2
                      go_ret
                      exact ⟨rfl, HX10.out⟩
                    | false =>
                      have HCF := Lib.hid (HCK.out w10 qs B5 c5 HX10.out HR10.out ⟨HC5.out, by have := HL.out; omega⟩)
                      skip
                      go_wp2_with fail
                      refine (HCF.out (HJC.out (fun e => by have h := of_decide_eq_false (HBB.out ()); exact h (by rw [e])))).mono ?_
                      rintro e wf ⟨rfl, hxf⟩
                      have HXF := Lib.hid (HX10.out.trans hxf)
                      clear hxf
                      go_wp2
                      go_ret
                      exact ⟨rfl, HXF.out⟩
                | false =>
                  have HAL := Lib.hid (HBA.out qs hab (of_decide_eq_false hbl))
                  clear hbl
                  refine plan_yes rfl (fun K hK => ?_); go_simp; refine ⟨_, fun _ _ => rfl, hK _ ?_⟩; clear hK K
                  refine plan_yes rfl (fun K hK => ?_); go_simp; refine ⟨_, fun _ _ => rfl, hK _ ?_⟩; clear hK K
                  refine plan_one rfl (fun K hK => ?_)
                  go_wp2
                  refine ⟨fun h => absurd h (by decide), ?_⟩
                  unfold wpPlan
                  have HX6 := Lib.hid (HXZ.out.trans HU2.out)
                  have HG6 := Lib.hid (WBlk.ext' HGZ.out HU2.out)
                  have HR6 := Lib.hid (HRZ.out.ext HU2.out)
                  have HLW := Lib.hid (HLB.out u2 gx HG6.out)
                  have HS7 := Lib.hid (HSC.out u2 qs B5 c5 HX6.out HR6.out ⟨HC5.out, by have := HL.out; omega⟩)
                  obtain ⟨sb, hsb⟩ : ∃ b, shw MR t (i : Int) (n : Int) qs = b := ⟨_, rfl⟩
                  rw [hsb] at HS7
                  go_wp2_with (first | (with_reducible refine wpList_load_row rfl 30 (.tmp 13) rfl gx rfl 30 VR (0, 0) _ HG6.out Tryd.underlying30 rfl HI.out ?_) | (refine wpList_load_row_g (by rfl) 30 (.tmp 13) rfl gx rfl 30 VR (0, 0) _ HG6.out Tryd.underlying30 rfl HI.out ?_))
                  refine HS7.out.mono ?_
                  rintro e w7 ⟨rfl, hx7⟩
                  have HX7 := Lib.hid (HX6.out.trans hx7)
                  have HR7 := Lib.hid (HR6.out.ext hx7)
                  clear hx7
                  cases sb with
                  | false =>
                    clear hsb
                    have HCF := Lib.hid (HCK.out w7 qs B5 c5 HX7.out HR7.out ⟨HC5.out, by have := HL.out; omega⟩)
                    skip
                    go_wp2_with fail
                    refine (HCF.out (HAL.out)).mono ?_
                    rintro e wf ⟨rfl, hxf⟩
                    have HXF := Lib.hid (HX7.out.trans hxf)
                    clear hxf
                    go_wp2
                    go_ret
                    exact ⟨rfl, HXF.out⟩
                  | true =>
                    obtain ⟨j, hj, hjn, hcl⟩ := HBW.out qs HR6.out.1 hsb
                    obtain rfl : i = j := by omega
                    have HJN := Lib.hid hjn
                    have HJC := Lib.hid hcl
                    obtain ⟨b1, o1, R1, c1, hA1, hc1, hl1, hr1⟩ := HRO.out i hjn
                    subst hA1
                    have HC1 := Lib.hid ((HX7.out.below.cell (p := ⟨b1, o1 + i, none⟩) (block_lt_of_cell hc1)).trans hc1)
                    have HS1 := Lib.hid (fun W (h : Ext w W) => show Sl W (.slice R1 (ro rows i).length c1) (ro rows i) from ⟨R1, c1, rfl, hl1, hr1.ext h⟩)
                    have HLS := Lib.hid (HLO.out HF.out i hjn)
                    have k1 : decide ((i : Int) < 0) = false := decide_eq_false (by omega)
                    have k2 : ¬ (i : Int) < 0 := by omega
                    have k3 : decide ((i : Int) ≥ (n : Int)) = false := decide_eq_false (by omega)
                    have k4 : ¬ (n : Int) ≤ (i : Int) := by omega
                    have k5 : (i : Int) < (n : Int) := by omega
                    have k6 : (0 : Int) ≤ (i : Int) := by omega
                    obtain ⟨s1, hs1⟩ : ∃ s, ro rows i = s := ⟨_, rfl⟩
                    rw [hs1] at HC1 HS1 HLS HJC
                    obtain ⟨bb, hbb⟩ : ∃ b, decide ([s1] = [t]) = b := ⟨_, rfl⟩
                    have HBB := Lib.hid (fun (_ : Unit) => hbb)
                    rw [hbb] at HLS
                    obtain ⟨n1', hn1'⟩ : ∃ n, s1.length = n := ⟨_, rfl⟩
                    rw [hn1'] at HC1 HS1
                    have hc7 := HC1.out
                    have HB1 := Lib.hid (rrd_lit w7 [.slice R1 n1' c1] [s1] (rowsV_one (HS1.out _ HX7.out)))
                    have HX8 := Lib.hid (HX7.out.alloc (.cells #[.slice R1 n1' c1] 35))
                    have HB2 := Lib.hid (rrd_lit (w7.alloc (.cells #[.slice R1 n1' c1] 35)) [.slice AT T ct] [t] (rowsV_one (HTS.out _ HX8.out)))
                    have HX9 := Lib.hid (HX8.out.alloc (.cells #[.slice AT T ct] 35))
                    have HB19 := Lib.hid (HB1.out.ext ((Ext.refl _).alloc (.cells #[.slice AT T ct] 35)))
                    have HR9 := Lib.hid (HR7.out.ext (((Ext.refl w7).alloc (.cells #[.slice R1 n1' c1] 35)).alloc (.cells #[.slice AT T ct] 35)))
                    have HSZ := Lib.hid (show (w7.alloc (.cells #[.slice R1 n1' c1] 35)).heap.size = w7.heap.size + 1 from by simp)
                    rw [HSZ.out] at HB2
                    clear hsb hjn hcl hc1 hl1 hr1 hs1 hbb hn1'
                    go_wp2_with fail
                    refine (HLS.out _ _ _ HB19.out HB2.out).mono ?_
                    rintro e w10 ⟨rfl, q10, rfl⟩
                    have HX10 := Lib.hid (HX9.out.drewN q10)
                    have HR10 := Lib.hid (HR9.out.ext ((Ext.refl _).drewN q10))
                    generalize ((w7.alloc (.cells #[.slice R1 n1' c1] 35)).alloc (.cells #[.slice AT T ct] 35)).drewN q10 = w10 at HX10 HR10 ⊢
                    cases bb with
                    | true =>
                      have HCF := Lib.hid (HCK.out w10 qs B5 c5 HX10.out HR10.out ⟨HC5.out, by have := HL.out; omega⟩)
                      skip
                      go_wp2_with fail
                      refine (HCF.out (HAL.out)).mono ?_
                      rintro e wf ⟨rfl, hxf⟩
                      have HXF := Lib.hid (HX10.out.trans hxf)
                      clear hxf
                      go_wp2
                      go_ret
                      exact ⟨rfl, HXF.out⟩
                    | false =>
                      have HCF := Lib.hid (HCK.out w10 qs B5 c5 HX10.out HR10.out ⟨HC5.out, by have := HL.out; omega⟩)
                      skip
                      go_wp2_with fail
                      refine (HCF.out (HJC.out (fun e => by have h := of_decide_eq_false (HBB.out ()); exact h (by rw [e])))).mono ?_
                      rintro e wf ⟨rfl, hxf⟩
                      have HXF := Lib.hid (HX10.out.trans hxf)
                      clear hxf
                      go_wp2
                      go_ret
                      exact ⟨rfl, HXF.out⟩
              · skip
                have hq := HQ.out
                rw [decide_eq_false hab] at hq
                refine wp_region_plan (AfterH wz) [0, 1, 2, 3, 4, 5, 6, 7, 8, 9] (.yes 0 (.yes 2 (.one 1 (.yes 3 (.yes 4 (.yes 5 (.yes 6 (.yes 7 (.yes 8 (.yes 9 (.one 10 .done))))))))))) (by kernel_rfl) (fun c a a' w e h => ⟨e ▸ h.1, h.2⟩) (by kernel_rfl) (by rw [hu]; exact HXU.out) ?_
                rw [hu]
                clear hu
                refine plan_yes rfl (fun K hK => ?_); go_simp; refine ⟨_, fun _ _ => rfl, hK _ ?_⟩; clear hK K
                refine plan_load rfl 30 (.tmp 13) rfl (.agg VR) (by rfl) (fun W hW => LD.out W hW) ?_
                refine plan_one rfl (fun K hK => ?_)
                go_wp2_with fail
                refine (HRK.out HF2.out _ (HXZ.out.trans HXU.out)).mono ?_
                rintro e u1 ⟨rfl, hx1⟩
                have HU1 := Lib.hid (show AfterH wz u1 from Ext.trans HXU.out hx1)
                clear hx1
                go_wp2
                refine ⟨by first | exact HU1.out | exact fun _ => HU1.out, ?_⟩
                refine plan_yes rfl (fun K hK => ?_); go_simp; refine ⟨_, fun _ _ => rfl, hK _ ?_⟩; clear hK K
                refine plan_yes rfl (fun K hK => ?_); go_simp; refine ⟨_, fun _ _ => rfl, hK _ ?_⟩; clear hK K
                refine plan_no rfl (fun K hK => ?_); go_simp; refine hK _ ?_; clear hK K
                refine plan_no rfl (fun K hK => ?_); go_simp; refine hK _ ?_; clear hK K
                refine plan_no rfl (fun K hK => ?_); go_simp; refine hK _ ?_; clear hK K
                refine plan_no rfl (fun K hK => ?_); go_simp; refine hK _ ?_; clear hK K
                refine plan_yes rfl (fun K hK => ?_); go_simp; refine ⟨_, fun _ _ => rfl, hK _ ?_⟩; clear hK K
                refine plan_one rfl (fun K hK => ?_)
                go_wp2
                refine ⟨fun h => absurd h (by decide), ?_⟩
                unfold wpPlan
                have HX6 := Lib.hid (HXZ.out.trans HU1.out)
                have HG6 := Lib.hid (WBlk.ext' HGZ.out HU1.out)
                have HR6 := Lib.hid (HRZ.out.ext HU1.out)
                have HLW := Lib.hid (HLB.out u1 gx HG6.out)
                have HS7 := Lib.hid (HSC.out u1 qs B5 c5 HX6.out HR6.out ⟨HC5.out, by have := HL.out; omega⟩)
                obtain ⟨sb, hsb⟩ : ∃ b, shw MR t (i : Int) (n : Int) qs = b := ⟨_, rfl⟩
                rw [hsb] at HS7
                go_wp2_with (first | (with_reducible refine wpList_load_row rfl 30 (.tmp 13) rfl gx rfl 30 VR (0, 0) _ HG6.out Tryd.underlying30 rfl HI.out ?_) | (refine wpList_load_row_g (by rfl) 30 (.tmp 13) rfl gx rfl 30 VR (0, 0) _ HG6.out Tryd.underlying30 rfl HI.out ?_))
                refine HS7.out.mono ?_
                rintro e w7 ⟨rfl, hx7⟩
                have HX7 := Lib.hid (HX6.out.trans hx7)
                have HR7 := Lib.hid (HR6.out.ext hx7)
                clear hx7
                cases sb with
                | false =>
                  clear hsb
                  go_wp2
                  go_ret
                  exact ⟨rfl, HX7.out⟩
                | true =>
                  obtain ⟨j, hj, hjn, hcl⟩ := HBW.out qs HR6.out.1 hsb
                  obtain rfl : i = j := by omega
                  have HJN := Lib.hid hjn
                  have HJC := Lib.hid hcl
                  obtain ⟨b1, o1, R1, c1, hA1, hc1, hl1, hr1⟩ := HRO.out i hjn
                  subst hA1
                  have HC1 := Lib.hid ((HX7.out.below.cell (p := ⟨b1, o1 + i, none⟩) (block_lt_of_cell hc1)).trans hc1)
                  have HS1 := Lib.hid (fun W (h : Ext w W) => show Sl W (.slice R1 (ro rows i).length c1) (ro rows i) from ⟨R1, c1, rfl, hl1, hr1.ext h⟩)
                  have HLS := Lib.hid (HLO.out HF.out i hjn)
                  have k1 : decide ((i : Int) < 0) = false := decide_eq_false (by omega)
                  have k2 : ¬ (i : Int) < 0 := by omega
                  have k3 : decide ((i : Int) ≥ (n : Int)) = false := decide_eq_false (by omega)
                  have k4 : ¬ (n : Int) ≤ (i : Int) := by omega
                  have k5 : (i : Int) < (n : Int) := by omega
                  have k6 : (0 : Int) ≤ (i : Int) := by omega
                  obtain ⟨s1, hs1⟩ : ∃ s, ro rows i = s := ⟨_, rfl⟩
                  rw [hs1] at HC1 HS1 HLS HJC
                  obtain ⟨bb, hbb⟩ : ∃ b, decide ([s1] = [t]) = b := ⟨_, rfl⟩
                  have HBB := Lib.hid (fun (_ : Unit) => hbb)
                  rw [hbb] at HLS
                  obtain ⟨n1', hn1'⟩ : ∃ n, s1.length = n := ⟨_, rfl⟩
                  rw [hn1'] at HC1 HS1
                  have hc7 := HC1.out
                  have HB1 := Lib.hid (rrd_lit w7 [.slice R1 n1' c1] [s1] (rowsV_one (HS1.out _ HX7.out)))
                  have HX8 := Lib.hid (HX7.out.alloc (.cells #[.slice R1 n1' c1] 35))
                  have HB2 := Lib.hid (rrd_lit (w7.alloc (.cells #[.slice R1 n1' c1] 35)) [.slice AT T ct] [t] (rowsV_one (HTS.out _ HX8.out)))
                  have HX9 := Lib.hid (HX8.out.alloc (.cells #[.slice AT T ct] 35))
                  have HB19 := Lib.hid (HB1.out.ext ((Ext.refl _).alloc (.cells #[.slice AT T ct] 35)))
                  have HR9 := Lib.hid (HR7.out.ext (((Ext.refl w7).alloc (.cells #[.slice R1 n1' c1] 35)).alloc (.cells #[.slice AT T ct] 35)))
                  have HSZ := Lib.hid (show (w7.alloc (.cells #[.slice R1 n1' c1] 35)).heap.size = w7.heap.size + 1 from by simp)
                  rw [HSZ.out] at HB2
                  clear hsb hjn hcl hc1 hl1 hr1 hs1 hbb hn1'
                  go_wp2_with fail
                  refine (HLS.out _ _ _ HB19.out HB2.out).mono ?_
                  rintro e w10 ⟨rfl, q10, rfl⟩
                  have HX10 := Lib.hid (HX9.out.drewN q10)
                  have HR10 := Lib.hid (HR9.out.ext ((Ext.refl _).drewN q10))
                  generalize ((w7.alloc (.cells #[.slice R1 n1' c1] 35)).alloc (.cells #[.slice AT T ct] 35)).drewN q10 = w10 at HX10 HR10 ⊢
                  cases bb with
                  | true =>
                    go_wp2
                    go_ret
                    exact ⟨rfl, HX10.out⟩
                  | false =>
                    have HCF := Lib.hid (HCK.out w10 qs B5 c5 HX10.out HR10.out ⟨HC5.out, by have := HL.out; omega⟩)
                    skip
                    go_wp2_with fail
                    refine (HCF.out (HJC.out (fun e => by have h := of_decide_eq_false (HBB.out ()); exact h (by rw [e])))).mono ?_
                    rintro e wf ⟨rfl, hxf⟩
                    have HXF := Lib.hid (HX10.out.trans hxf)
                    clear hxf
                    go_wp2
                    go_ret
                    exact ⟨rfl, HXF.out⟩
            · by_cases h0 : at' < 0
              · skip
                have d3 : decide (at' ≥ 0) = false := decide_eq_false (by omega)
                have n3 : ¬ 0 ≤ at' := by omega
                clear hin
                go_wp2_with fail
                refine (HRT.out HF.out _ HX1.out).mono ?_
                rintro e w3 ⟨rfl, hx3⟩
                have HX3 := Lib.hid (HX1.out.trans hx3)
                clear hx3
                obtain ⟨gx, hgx⟩ : ∃ g, w3.heap.size = g := ⟨_, rfl⟩
                have HGX := Lib.hid (show (w3.alloc (.cells Z 30)).heap[gx]? = some (.cells Z 30 (0, 0)) from by rw [← hgx]; exact heap_alloc_new _ _)
                have HI := Lib.hid HVR.out.info
                have HO := Lib.hid HVR.out.one
                have HZZ := Lib.hid (show Z.size = VR.size from by rw [HVR.out.1]; exact HZ32.out ())
                have HX4 := Lib.hid (show Ext w ((w3.alloc (.cells Z 30)).setRow gx VR) from HX3.out.trans (Ext.setRow ((Ext.refl w3).alloc _) (by rw [← hgx]; exact Nat.le_refl _) VR))
                have HG4 := Lib.hid (setRow_heap _ gx _ VR _ _ HGX.out)
                go_wp2_with (with_reducible refine wpList_store_all rfl 30 (.tmp 13) (.tmp 40) rfl gx Z VR rfl rfl HGX.out HI.out HZZ.out HO.out ?_)
                obtain ⟨wz, hwz⟩ : ∃ W, W = ((w3.alloc (.cells Z 30)).setRow gx VR) := ⟨_, rfl⟩
                have HXZ := Lib.hid (show Ext w wz from by rw [hwz]; exact HX4.out)
                have HGZ := Lib.hid (show wz.heap[gx]? = some (.cells VR 30 (0, 0)) from by rw [hwz]; exact HG4.out)
                have HRZ := Lib.hid (show DRd wz B ps from by rw [hwz]; exact HPD.out.ext HX4.out)
                rw [← hwz]
                clear hwz
                have LD := Lib.hid (fun (W : World) (h : AfterH wz W) => show (Instr.loadAt 30 (.pointer (some ⟨gx, 0, none⟩))).run Tryd.prog W = .ok (.agg VR) W from HLB.out W gx (WBlk.ext' HGZ.out h))
                go_wp2
                obtain ⟨u, hu⟩ : ∃ u, wz.drew = u := ⟨_, rfl⟩
                have HXU := Lib.hid (show AfterH wz u from by rw [← hu]; exact (Ext.refl wz).drew)
                by_cases hab : MK = MR
                · skip
                  have hq := HQ.out
                  rw [decide_eq_true hab] at hq
                  refine wp_region_plan (AfterH wz) [0, 1, 2, 3, 4, 5, 6, 7, 8, 9] (.yes 0 (.yes 2 (.one 1 (.yes 3 (.yes 4 (.yes 5 (.yes 6 (.one 7 (.yes 8 (.yes 9 (.one 10 .done))))))))))) (by kernel_rfl) (fun c a a' w e h => ⟨e ▸ h.1, h.2⟩) (by kernel_rfl) (by rw [hu]; exact HXU.out) ?_
                  rw [hu]
                  clear hu
                  refine plan_yes rfl (fun K hK => ?_); go_simp; refine ⟨_, fun _ _ => rfl, hK _ ?_⟩; clear hK K
                  refine plan_load rfl 30 (.tmp 13) rfl (.agg VR) (by rfl) (fun W hW => LD.out W hW) ?_
                  refine plan_one rfl (fun K hK => ?_)
                  go_wp2_with fail
                  refine (HRK.out HF2.out _ (HXZ.out.trans HXU.out)).mono ?_
                  rintro e u1 ⟨rfl, hx1⟩
                  have HU1 := Lib.hid (show AfterH wz u1 from Ext.trans HXU.out hx1)
                  clear hx1
                  go_wp2
                  refine ⟨by first | exact HU1.out | exact fun _ => HU1.out, ?_⟩
                  refine plan_yes rfl (fun K hK => ?_); go_simp; refine ⟨_, fun _ _ => rfl, hK _ ?_⟩; clear hK K
                  refine plan_yes rfl (fun K hK => ?_); go_simp; refine ⟨_, fun _ _ => rfl, hK _ ?_⟩; clear hK K
                  refine plan_yes rfl (fun K hK => ?_); go_simp; refine ⟨_, fun _ _ => rfl, hK _ ?_⟩; clear hK K
                  refine plan_yes rfl (fun K hK => ?_); go_simp; refine ⟨_, fun _ _ => rfl, hK _ ?_⟩; clear hK K
                  obtain ⟨bl, hbl⟩ : ∃ b, decide (rows = mows) = b := ⟨_, rfl⟩
                  have HLL := Lib.hid (HLI.out HF.out u1 (HXZ.out.trans HU1.out))
                  rw [hbl] at HLL
                  refine plan_one rfl (fun K hK => ?_)
                  go_wp2_with fail
                  refine HLL.out.mono ?_
                  rintro e u2 ⟨rfl, q2, rfl⟩
                  have HU2 := Lib.hid (show AfterH wz (u1.drewN q2) from Ext.drewN HU1.out q2)
                  go_wp2
                  refine ⟨by first | exact HU2.out | exact fun _ => HU2.out, ?_⟩
                  generalize u1.drewN q2 = u2 at HU2 ⊢
                  clear HLL
                  cases bl with
                  | true =>
                    clear hbl
                    refine plan_yes rfl (fun K hK => ?_); go_simp; refine ⟨_, fun _ _ => rfl, hK _ ?_⟩; clear hK K
                    refine plan_yes rfl (fun K hK => ?_); go_simp; refine ⟨_, fun _ _ => rfl, hK _ ?_⟩; clear hK K
                    refine plan_one rfl (fun K hK => ?_)
                    go_wp2
                    refine ⟨fun h => absurd h (by decide), ?_⟩
                    unfold wpPlan
                    have HX6 := Lib.hid (HXZ.out.trans HU2.out)
                    have HG6 := Lib.hid (WBlk.ext' HGZ.out HU2.out)
                    have HR6 := Lib.hid (HRZ.out.ext HU2.out)
                    have HLW := Lib.hid (HLB.out u2 gx HG6.out)
                    have HS7 := Lib.hid (HSC.out u2 ps B cb HX6.out HR6.out ⟨by have := HPC.out; have := HPP.out; omega, by have := HPP.out; omega⟩)
                    rw [HPP.out] at HS7
                    obtain ⟨sb, hsb⟩ : ∃ b, shw MR t at' (n : Int) ps = b := ⟨_, rfl⟩
                    rw [hsb] at HS7
                    go_wp2_with (first | (with_reducible refine wpList_load_row rfl 30 (.tmp 13) rfl gx rfl 30 VR (0, 0) _ HG6.out Tryd.underlying30 rfl HI.out ?_) | (refine wpList_load_row_g (by rfl) 30 (.tmp 13) rfl gx rfl 30 VR (0, 0) _ HG6.out Tryd.underlying30 rfl HI.out ?_))
                    refine HS7.out.mono ?_
                    rintro e w7 ⟨rfl, hx7⟩
                    have HX7 := Lib.hid (HX6.out.trans hx7)
                    have HR7 := Lib.hid (HR6.out.ext hx7)
                    clear hx7
                    cases sb with
                    | false =>
                      clear hsb
                      go_wp2
                      go_ret
                      exact ⟨rfl, HX7.out⟩
                    | true =>
                      obtain ⟨j, hj, hjn, hcl⟩ := HBW.out ps HR6.out.1 hsb
                      exfalso
                      omega
                  | false =>
                    have HAL := Lib.hid (HBA.out ps hab (of_decide_eq_false hbl))
                    clear hbl
                    refine plan_yes rfl (fun K hK => ?_); go_simp; refine ⟨_, fun _ _ => rfl, hK _ ?_⟩; clear hK K
                    refine plan_yes rfl (fun K hK => ?_); go_simp; refine ⟨_, fun _ _ => rfl, hK _ ?_⟩; clear hK K
                    refine plan_one rfl (fun K hK => ?_)
                    go_wp2
                    refine ⟨fun h => absurd h (by decide), ?_⟩
                    unfold wpPlan
                    have HX6 := Lib.hid (HXZ.out.trans HU2.out)
                    have HG6 := Lib.hid (WBlk.ext' HGZ.out HU2.out)
                    have HR6 := Lib.hid (HRZ.out.ext HU2.out)
                    have HLW := Lib.hid (HLB.out u2 gx HG6.out)
                    have HS7 := Lib.hid (HSC.out u2 ps B cb HX6.out HR6.out ⟨by have := HPC.out; have := HPP.out; omega, by have := HPP.out; omega⟩)
                    rw [HPP.out] at HS7
                    obtain ⟨sb, hsb⟩ : ∃ b, shw MR t at' (n : Int) ps = b := ⟨_, rfl⟩
                    rw [hsb] at HS7
                    go_wp2_with (first | (with_reducible refine wpList_load_row rfl 30 (.tmp 13) rfl gx rfl 30 VR (0, 0) _ HG6.out Tryd.underlying30 rfl HI.out ?_) | (refine wpList_load_row_g (by rfl) 30 (.tmp 13) rfl gx rfl 30 VR (0, 0) _ HG6.out Tryd.underlying30 rfl HI.out ?_))
                    refine HS7.out.mono ?_
                    rintro e w7 ⟨rfl, hx7⟩
                    have HX7 := Lib.hid (HX6.out.trans hx7)
                    have HR7 := Lib.hid (HR6.out.ext hx7)
                    clear hx7
                    cases sb with
                    | false =>
                      clear hsb
                      have HCF := Lib.hid (HCK.out w7 ps B cb HX7.out HR7.out ⟨by have := HPC.out; have := HPP.out; omega, by have := HPP.out; omega⟩)
                      rw [HPP.out] at HCF
                      go_wp2_with fail
                      refine (HCF.out (HAL.out)).mono ?_
                      rintro e wf ⟨rfl, hxf⟩
                      have HXF := Lib.hid (HX7.out.trans hxf)
                      clear hxf
                      go_wp2
                      go_ret
                      exact ⟨rfl, HXF.out⟩
                    | true =>
                      obtain ⟨j, hj, hjn, hcl⟩ := HBW.out ps HR6.out.1 hsb
                      exfalso
                      omega
                · skip
                  have hq := HQ.out
                  rw [decide_eq_false hab] at hq
                  refine wp_region_plan (AfterH wz) [0, 1, 2, 3, 4, 5, 6, 7, 8, 9] (.yes 0 (.yes 2 (.one 1 (.yes 3 (.yes 4 (.yes 5 (.yes 6 (.yes 7 (.yes 8 (.yes 9 (.one 10 .done))))))))))) (by kernel_rfl) (fun c a a' w e h => ⟨e ▸ h.1, h.2⟩) (by kernel_rfl) (by rw [hu]; exact HXU.out) ?_
                  rw [hu]
                  clear hu
                  refine plan_yes rfl (fun K hK => ?_); go_simp; refine ⟨_, fun _ _ => rfl, hK _ ?_⟩; clear hK K
                  refine plan_load rfl 30 (.tmp 13) rfl (.agg VR) (by rfl) (fun W hW => LD.out W hW) ?_
                  refine plan_one rfl (fun K hK => ?_)
                  go_wp2_with fail
                  refine (HRK.out HF2.out _ (HXZ.out.trans HXU.out)).mono ?_
                  rintro e u1 ⟨rfl, hx1⟩
                  have HU1 := Lib.hid (show AfterH wz u1 from Ext.trans HXU.out hx1)
                  clear hx1
                  go_wp2
                  refine ⟨by first | exact HU1.out | exact fun _ => HU1.out, ?_⟩
                  refine plan_yes rfl (fun K hK => ?_); go_simp; refine ⟨_, fun _ _ => rfl, hK _ ?_⟩; clear hK K
                  refine plan_yes rfl (fun K hK => ?_); go_simp; refine ⟨_, fun _ _ => rfl, hK _ ?_⟩; clear hK K
                  refine plan_no rfl (fun K hK => ?_); go_simp; refine hK _ ?_; clear hK K
                  refine plan_no rfl (fun K hK => ?_); go_simp; refine hK _ ?_; clear hK K
                  refine plan_no rfl (fun K hK => ?_); go_simp; refine hK _ ?_; clear hK K
                  refine plan_no rfl (fun K hK => ?_); go_simp; refine hK _ ?_; clear hK K
                  refine plan_yes rfl (fun K hK => ?_); go_simp; refine ⟨_, fun _ _ => rfl, hK _ ?_⟩; clear hK K
                  refine plan_one rfl (fun K hK => ?_)
                  go_wp2
                  refine ⟨fun h => absurd h (by decide), ?_⟩
                  unfold wpPlan
                  have HX6 := Lib.hid (HXZ.out.trans HU1.out)
                  have HG6 := Lib.hid (WBlk.ext' HGZ.out HU1.out)
                  have HR6 := Lib.hid (HRZ.out.ext HU1.out)
                  have HLW := Lib.hid (HLB.out u1 gx HG6.out)
                  have HS7 := Lib.hid (HSC.out u1 ps B cb HX6.out HR6.out ⟨by have := HPC.out; have := HPP.out; omega, by have := HPP.out; omega⟩)
                  rw [HPP.out] at HS7
                  obtain ⟨sb, hsb⟩ : ∃ b, shw MR t at' (n : Int) ps = b := ⟨_, rfl⟩
                  rw [hsb] at HS7
                  go_wp2_with (first | (with_reducible refine wpList_load_row rfl 30 (.tmp 13) rfl gx rfl 30 VR (0, 0) _ HG6.out Tryd.underlying30 rfl HI.out ?_) | (refine wpList_load_row_g (by rfl) 30 (.tmp 13) rfl gx rfl 30 VR (0, 0) _ HG6.out Tryd.underlying30 rfl HI.out ?_))
                  refine HS7.out.mono ?_
                  rintro e w7 ⟨rfl, hx7⟩
                  have HX7 := Lib.hid (HX6.out.trans hx7)
                  have HR7 := Lib.hid (HR6.out.ext hx7)
                  clear hx7
                  cases sb with
                  | false =>
                    clear hsb
                    go_wp2
                    go_ret
                    exact ⟨rfl, HX7.out⟩
                  | true =>
                    obtain ⟨j, hj, hjn, hcl⟩ := HBW.out ps HR6.out.1 hsb
                    exfalso
                    omega
              · skip
                have d3 : decide (at' ≥ 0) = true := decide_eq_true (by omega)
                have n3 : 0 ≤ at' := by omega
                have d4 : decide (at' < (n : Int)) = false := decide_eq_false (by omega)
                have n4 : ¬ at' < (n : Int) := by omega
                clear hin
                go_wp2_with fail
                refine (HRT.out HF.out _ HX1.out).mono ?_
                rintro e w3 ⟨rfl, hx3⟩
                have HX3 := Lib.hid (HX1.out.trans hx3)
                clear hx3
                obtain ⟨gx, hgx⟩ : ∃ g, w3.heap.size = g := ⟨_, rfl⟩
                have HGX := Lib.hid (show (w3.alloc (.cells Z 30)).heap[gx]? = some (.cells Z 30 (0, 0)) from by rw [← hgx]; exact heap_alloc_new _ _)
                have HI := Lib.hid HVR.out.info
                have HO := Lib.hid HVR.out.one
                have HZZ := Lib.hid (show Z.size = VR.size from by rw [HVR.out.1]; exact HZ32.out ())
                have HX4 := Lib.hid (show Ext w ((w3.alloc (.cells Z 30)).setRow gx VR) from HX3.out.trans (Ext.setRow ((Ext.refl w3).alloc _) (by rw [← hgx]; exact Nat.le_refl _) VR))
                have HG4 := Lib.hid (setRow_heap _ gx _ VR _ _ HGX.out)
                go_wp2_with (with_reducible refine wpList_store_all rfl 30 (.tmp 13) (.tmp 40) rfl gx Z VR rfl rfl HGX.out HI.out HZZ.out HO.out ?_)
                obtain ⟨wz, hwz⟩ : ∃ W, W = ((w3.alloc (.cells Z 30)).setRow gx VR) := ⟨_, rfl⟩
                have HXZ := Lib.hid (show Ext w wz from by rw [hwz]; exact HX4.out)
                have HGZ := Lib.hid (show wz.heap[gx]? = some (.cells VR 30 (0, 0)) from by rw [hwz]; exact HG4.out)
                have HRZ := Lib.hid (show DRd wz B ps from by rw [hwz]; exact HPD.out.ext HX4.out)
                rw [← hwz]
                clear hwz
                have LD := Lib.hid (fun (W : World) (h : AfterH wz W) => show (Instr.loadAt 30 (.pointer (some ⟨gx, 0, none⟩))).run Tryd.prog W = .ok (.agg VR) W from HLB.out W gx (WBlk.ext' HGZ.out h))
                go_wp2
                obtain ⟨u, hu⟩ : ∃ u, wz.drew = u := ⟨_, rfl⟩
                have HXU := Lib.hid (show AfterH wz u from by rw [← hu]; exact (Ext.refl wz).drew)
                by_cases hab : MK = MR
                · skip
                  have hq := HQ.out
                  rw [decide_eq_true hab] at hq
                  refine wp_region_plan (AfterH wz) [0, 1, 2, 3, 4, 5, 6, 7, 8, 9] (.yes 0 (.yes 2 (.one 1 (.yes 3 (.yes 4 (.yes 5 (.yes 6 (.one 7 (.yes 8 (.yes 9 (.one 10 .done))))))))))) (by kernel_rfl) (fun c a a' w e h => ⟨e ▸ h.1, h.2⟩) (by kernel_rfl) (by rw [hu]; exact HXU.out) ?_
                  rw [hu]
                  clear hu
                  refine plan_yes rfl (fun K hK => ?_); go_simp; refine ⟨_, fun _ _ => rfl, hK _ ?_⟩; clear hK K
                  refine plan_load rfl 30 (.tmp 13) rfl (.agg VR) (by rfl) (fun W hW => LD.out W hW) ?_
                  refine plan_one rfl (fun K hK => ?_)
                  go_wp2_with fail
                  refine (HRK.out HF2.out _ (HXZ.out.trans HXU.out)).mono ?_
                  rintro e u1 ⟨rfl, hx1⟩
                  have HU1 := Lib.hid (show AfterH wz u1 from Ext.trans HXU.out hx1)
                  clear hx1
                  go_wp2
                  refine ⟨by first | exact HU1.out | exact fun _ => HU1.out, ?_⟩
                  refine plan_yes rfl (fun K hK => ?_); go_simp; refine ⟨_, fun _ _ => rfl, hK _ ?_⟩; clear hK K
                  refine plan_yes rfl (fun K hK => ?_); go_simp; refine ⟨_, fun _ _ => rfl, hK _ ?_⟩; clear hK K
                  refine plan_yes rfl (fun K hK => ?_); go_simp; refine ⟨_, fun _ _ => rfl, hK _ ?_⟩; clear hK K
                  refine plan_yes rfl (fun K hK => ?_); go_simp; refine ⟨_, fun _ _ => rfl, hK _ ?_⟩; clear hK K
                  obtain ⟨bl, hbl⟩ : ∃ b, decide (rows = mows) = b := ⟨_, rfl⟩
                  have HLL := Lib.hid (HLI.out HF.out u1 (HXZ.out.trans HU1.out))
                  rw [hbl] at HLL
                  refine plan_one rfl (fun K hK => ?_)
                  go_wp2_with fail
                  refine HLL.out.mono ?_
                  rintro e u2 ⟨rfl, q2, rfl⟩
                  have HU2 := Lib.hid (show AfterH wz (u1.drewN q2) from Ext.drewN HU1.out q2)
                  go_wp2
                  refine ⟨by first | exact HU2.out | exact fun _ => HU2.out, ?_⟩
                  generalize u1.drewN q2 = u2 at HU2 ⊢
                  clear HLL
                  cases bl with
                  | true =>
                    clear hbl
                    refine plan_yes rfl (fun K hK => ?_); go_simp; refine ⟨_, fun _ _ => rfl, hK _ ?_⟩; clear hK K
                    refine plan_yes rfl (fun K hK => ?_); go_simp; refine ⟨_, fun _ _ => rfl, hK _ ?_⟩; clear hK K
                    refine plan_one rfl (fun K hK => ?_)
                    go_wp2
                    refine ⟨fun h => absurd h (by decide), ?_⟩
                    unfold wpPlan
                    have HX6 := Lib.hid (HXZ.out.trans HU2.out)
                    have HG6 := Lib.hid (WBlk.ext' HGZ.out HU2.out)
                    have HR6 := Lib.hid (HRZ.out.ext HU2.out)
                    have HLW := Lib.hid (HLB.out u2 gx HG6.out)
                    have HS7 := Lib.hid (HSC.out u2 ps B cb HX6.out HR6.out ⟨by have := HPC.out; have := HPP.out; omega, by have := HPP.out; omega⟩)
                    rw [HPP.out] at HS7
                    obtain ⟨sb, hsb⟩ : ∃ b, shw MR t at' (n : Int) ps = b := ⟨_, rfl⟩
                    rw [hsb] at HS7
                    go_wp2_with (first | (with_reducible refine wpList_load_row rfl 30 (.tmp 13) rfl gx rfl 30 VR (0, 0) _ HG6.out Tryd.underlying30 rfl HI.out ?_) | (refine wpList_load_row_g (by rfl) 30 (.tmp 13) rfl gx rfl 30 VR (0, 0) _ HG6.out Tryd.underlying30 rfl HI.out ?_))
                    refine HS7.out.mono ?_
                    rintro e w7 ⟨rfl, hx7⟩
                    have HX7 := Lib.hid (HX6.out.trans hx7)
                    have HR7 := Lib.hid (HR6.out.ext hx7)
                    clear hx7
                    cases sb with
                    | false =>
                      clear hsb
                      go_wp2
                      go_ret
                      exact ⟨rfl, HX7.out⟩
                    | true =>
                      obtain ⟨j, hj, hjn, hcl⟩ := HBW.out ps HR6.out.1 hsb
                      exfalso
                      omega
                  | false =>
                    have HAL := Lib.hid (HBA.out ps hab (of_decide_eq_false hbl))
                    clear hbl
                    refine plan_yes rfl (fun K hK => ?_); go_simp; refine ⟨_, fun _ _ => rfl, hK _ ?_⟩; clear hK K
                    refine plan_yes rfl (fun K hK => ?_); go_simp; refine ⟨_, fun _ _ => rfl, hK _ ?_⟩; clear hK K
                    refine plan_one rfl (fun K hK => ?_)
                    go_wp2
                    refine ⟨fun h => absurd h (by decide), ?_⟩
                    unfold wpPlan
                    have HX6 := Lib.hid (HXZ.out.trans HU2.out)
                    have HG6 := Lib.hid (WBlk.ext' HGZ.out HU2.out)
                    have HR6 := Lib.hid (HRZ.out.ext HU2.out)
                    have HLW := Lib.hid (HLB.out u2 gx HG6.out)
                    have HS7 := Lib.hid (HSC.out u2 ps B cb HX6.out HR6.out ⟨by have := HPC.out; have := HPP.out; omega, by have := HPP.out; omega⟩)
                    rw [HPP.out] at HS7
                    obtain ⟨sb, hsb⟩ : ∃ b, shw MR t at' (n : Int) ps = b := ⟨_, rfl⟩
                    rw [hsb] at HS7
                    go_wp2_with (first | (with_reducible refine wpList_load_row rfl 30 (.tmp 13) rfl gx rfl 30 VR (0, 0) _ HG6.out Tryd.underlying30 rfl HI.out ?_) | (refine wpList_load_row_g (by rfl) 30 (.tmp 13) rfl gx rfl 30 VR (0, 0) _ HG6.out Tryd.underlying30 rfl HI.out ?_))
                    refine HS7.out.mono ?_
                    rintro e w7 ⟨rfl, hx7⟩
                    have HX7 := Lib.hid (HX6.out.trans hx7)
                    have HR7 := Lib.hid (HR6.out.ext hx7)
                    clear hx7
                    cases sb with
                    | false =>
                      clear hsb
                      have HCF := Lib.hid (HCK.out w7 ps B cb HX7.out HR7.out ⟨by have := HPC.out; have := HPP.out; omega, by have := HPP.out; omega⟩)
                      rw [HPP.out] at HCF
                      go_wp2_with fail
                      refine (HCF.out (HAL.out)).mono ?_
                      rintro e wf ⟨rfl, hxf⟩
                      have HXF := Lib.hid (HX7.out.trans hxf)
                      clear hxf
                      go_wp2
                      go_ret
                      exact ⟨rfl, HXF.out⟩
                    | true =>
                      obtain ⟨j, hj, hjn, hcl⟩ := HBW.out ps HR6.out.1 hsb
                      exfalso
                      omega
                · skip
                  have hq := HQ.out
                  rw [decide_eq_false hab] at hq
                  refine wp_region_plan (AfterH wz) [0, 1, 2, 3, 4, 5, 6, 7, 8, 9] (.yes 0 (.yes 2 (.one 1 (.yes 3 (.yes 4 (.yes 5 (.yes 6 (.yes 7 (.yes 8 (.yes 9 (.one 10 .done))))))))))) (by kernel_rfl) (fun c a a' w e h => ⟨e ▸ h.1, h.2⟩) (by kernel_rfl) (by rw [hu]; exact HXU.out) ?_
                  rw [hu]
                  clear hu
                  refine plan_yes rfl (fun K hK => ?_); go_simp; refine ⟨_, fun _ _ => rfl, hK _ ?_⟩; clear hK K
                  refine plan_load rfl 30 (.tmp 13) rfl (.agg VR) (by rfl) (fun W hW => LD.out W hW) ?_
                  refine plan_one rfl (fun K hK => ?_)
                  go_wp2_with fail
                  refine (HRK.out HF2.out _ (HXZ.out.trans HXU.out)).mono ?_
                  rintro e u1 ⟨rfl, hx1⟩
                  have HU1 := Lib.hid (show AfterH wz u1 from Ext.trans HXU.out hx1)
                  clear hx1
                  go_wp2
                  refine ⟨by first | exact HU1.out | exact fun _ => HU1.out, ?_⟩
                  refine plan_yes rfl (fun K hK => ?_); go_simp; refine ⟨_, fun _ _ => rfl, hK _ ?_⟩; clear hK K
                  refine plan_yes rfl (fun K hK => ?_); go_simp; refine ⟨_, fun _ _ => rfl, hK _ ?_⟩; clear hK K
                  refine plan_no rfl (fun K hK => ?_); go_simp; refine hK _ ?_; clear hK K
                  refine plan_no rfl (fun K hK => ?_); go_simp; refine hK _ ?_; clear hK K
                  refine plan_no rfl (fun K hK => ?_); go_simp; refine hK _ ?_; clear hK K
                  refine plan_no rfl (fun K hK => ?_); go_simp; refine hK _ ?_; clear hK K
                  refine plan_yes rfl (fun K hK => ?_); go_simp; refine ⟨_, fun _ _ => rfl, hK _ ?_⟩; clear hK K
                  refine plan_one rfl (fun K hK => ?_)
                  go_wp2
                  refine ⟨fun h => absurd h (by decide), ?_⟩
                  unfold wpPlan
                  have HX6 := Lib.hid (HXZ.out.trans HU1.out)
                  have HG6 := Lib.hid (WBlk.ext' HGZ.out HU1.out)
                  have HR6 := Lib.hid (HRZ.out.ext HU1.out)
                  have HLW := Lib.hid (HLB.out u1 gx HG6.out)
                  have HS7 := Lib.hid (HSC.out u1 ps B cb HX6.out HR6.out ⟨by have := HPC.out; have := HPP.out; omega, by have := HPP.out; omega⟩)
                  rw [HPP.out] at HS7
                  obtain ⟨sb, hsb⟩ : ∃ b, shw MR t at' (n : Int) ps = b := ⟨_, rfl⟩
                  rw [hsb] at HS7
                  go_wp2_with (first | (with_reducible refine wpList_load_row rfl 30 (.tmp 13) rfl gx rfl 30 VR (0, 0) _ HG6.out Tryd.underlying30 rfl HI.out ?_) | (refine wpList_load_row_g (by rfl) 30 (.tmp 13) rfl gx rfl 30 VR (0, 0) _ HG6.out Tryd.underlying30 rfl HI.out ?_))
                  refine HS7.out.mono ?_
                  rintro e w7 ⟨rfl, hx7⟩
                  have HX7 := Lib.hid (HX6.out.trans hx7)
                  have HR7 := Lib.hid (HR6.out.ext hx7)
                  clear hx7
                  cases sb with
                  | false =>
                    clear hsb
                    go_wp2
                    go_ret
                    exact ⟨rfl, HX7.out⟩
                  | true =>
                    obtain ⟨j, hj, hjn, hcl⟩ := HBW.out ps HR6.out.1 hsb
                    exfalso
                    omega
        · have d2 : decide ((p : Int) > 24) = true := decide_eq_true (by omega)
          go_wp2_with fail
          refine (HAW.out _ HX1.out).mono ?_
          rintro e w3 ⟨rfl, hx3⟩
          have HX3 := Lib.hid (HX1.out.trans hx3)
          clear hx3
          go_wp2
          go_ret
          exact ⟨rfl, HX3.out⟩
      · have d1 : decide ((T : Int) > 20) = true := decide_eq_true (by omega)
        go_wp2_with fail
        refine (HAW.out _ HX1.out).mono ?_
        rintro e w3 ⟨rfl, hx3⟩
        have HX3 := Lib.hid (HX1.out.trans hx3)
        clear hx3
        go_wp2
        go_ret
        exact ⟨rfl, HX3.out⟩
end Go.Proofs.YthbfodmpoheahaaDoor

/-
  Numbers of one kind in a block of a call's own, that are changed one by one; what stays while other blocks are written. Conditions: none.
-/
namespace Go.Proofs.YthbfodmpoheahaaDoor
open Go.RowKit
open Pol (co Sm)

section
variable {k : IntKind}
/-- The first n cells of block g are the numbers F of kind k, and may be written. -/
def NCells (k : IntKind) (w : World) (g n : Nat) (F : Nat → Nat) : Prop := ∀ i, i < n → w.cell? ⟨g, i, none⟩ = some (.int k ((F i : Nat) : Int)) ∧ w.frozen? ⟨g, i, none⟩ = false
theorem NCells.drewN {w : World} {g n : Nat} {F : Nat → Nat} (h : NCells k w g n F) (q : Nat) : NCells k (w.drewN q) g n F := h
theorem NCells.congr {w : World} {g n : Nat} {F F' : Nat → Nat} (h : NCells k w g n F) (hf : ∀ i, i < n → F i = F' i) : NCells k w g n F' := fun i hi => ⟨by rw [(h i hi).1, hf i hi], (h i hi).2⟩
theorem NCells.store {w : World} {g n : Nat} {F : Nat → Nat} (h : NCells k w g n F) (j v : Nat) : NCells k (w.setCell ⟨g, j, none⟩ (.int k (v : Int))) g n (upd F j v) := fun i hi => by
  refine ⟨?_, by rw [World.frozen?_setCell]; exact (h i hi).2⟩
  unfold upd
  by_cases e : i = j
  · subst e
    rw [if_pos rfl]
    exact World.cell?_setCell_same' _ _ _ (by rw [(h i hi).1]; rfl)
  · rw [if_neg e, World.cell?_setCell_other _ _ _ _ (fun h => e (by cases h; rfl))]
    exact (h i hi).1
theorem NCells.keep {w w' : World} {g n : Nat} {F : Nat → Nat} {row : Option Nat} (h : NCells k w g n F) (hg : w.grownBy w' row) (hne : some g ≠ row) : NCells k w' g n F := fun i hi =>
  ⟨hg.cell (h i hi).1 hne, (World.frozen?_of_block (a := ⟨g, i, none⟩) (hg.block g (block_lt_of_cell (h i hi).1) hne)).trans (h i hi).2⟩
theorem NCells.ext {w w' : World} {g n : Nat} {F : Nat → Nat} (h : NCells k w g n F) (hx : Ext w w') : NCells k w' g n F := fun i hi =>
  ⟨(hx.below.cell (p := ⟨g, i, none⟩) (block_lt_of_cell (h i hi).1)).trans (h i hi).1, (hx.below.frozen (p := ⟨g, i, none⟩) (block_lt_of_cell (h i hi).1)).trans (h i hi).2⟩
theorem NRd.keep {w w' : World} {A : Option Addr} {l : List Nat} {row : Option Nat} (h : NRd k w A l) (hg : w.grownBy w' row) (hne : ∀ b o, A = some ⟨b, o, none⟩ → 0 < l.length → some b ≠ row) : NRd k w' A l := fun i hi => by
  obtain ⟨b, o, e, hc⟩ := h i hi
  exact ⟨b, o, e, hg.cell hc (hne b o e (by omega))⟩
theorem NMine.cells {T : TypeId} {w : World} {base : Nat} {v : Value} {l : List Nat} (hm : NMine T k w base v l) : ∃ A c g, v = .slice A l.length c ∧ l.length ≤ c ∧ (0 < l.length → A = some ⟨g, 0, none⟩ ∧ base ≤ g) ∧ NCells k w g l.length (co l) := by
  rcases hm.2 with ⟨rfl, hn⟩ | ⟨g, cap, cur, rfl, hb, hg, hnc, _, _, htake⟩
  · have : l = [] := List.eq_nil_of_length_eq_zero hn
    subst this
    exact ⟨none, 0, 0, rfl, Nat.le_refl _, fun h => absurd h (by simp), fun i hi => absurd hi (by simp)⟩
  · refine ⟨_, cap, g, rfl, hnc, fun _ => ⟨rfl, hb⟩, fun i hi => ⟨?_, frozen_of_row w g i cur _ hg⟩⟩
    rw [cell_of_row w g i cur _ _ hg, ← nv_at l i hi, ← htake, List.getElem?_take, if_pos (by omega)]
    simp
end
end Go.Proofs.YthbfodmpoheahaaDoor

/-
  What the document's own square and cube of layer 10 do. Conditions: a number below 2^16.
-/
namespace Go.Proofs.YthbfodmpoheahaaDoor
open Go.RowKit
open Pol (co Sm)

set_option maxHeartbeats 800000 in
set_option maxRecDepth 100000 in
theorem ref10_square (p : Nat) (w : World) (hp : p < 65536) :
    Calls Tryd.prog 45 #[.int .u64 (p : Int)] w (Tells (.int .u32 ((rtx 2 p 37 0 % 4294967296 : Nat) : Int)) w) := by
  have HAB := Lib.hid (fun (x : Nat) (ans : Bool) (W : World) (hx : x < 1099511627776) (ha : decide (p * 65536 ^ (2 * 2) < x ^ 2) = ans) => show Calls Tryd.prog 59 #[.slice (some ⟨W.heap.size, 0, none⟩) 2 2, .int .u64 (p : Int), .int .i64 2] (W.alloc (.cells (nv .u64 [x, x]).toArray 68)) (Tells (.bool ans) (W.alloc (.cells (nv .u64 [x, x]).toArray 68))) from by
    have h := ref10_above [x, x] p 2 W.heap.size 0 2 (W.alloc (.cells (nv .u64 [x, x]).toArray 68)) (fun i hi => by
      obtain ⟨b, o, e, hc⟩ := nrd_lit (k := .u64) (T := 68) W [x, x] i hi
      injection e with e
      injection e with e1 e2
      subst e1; subst e2
      exact hc) (fun f hf => by simp at hf; omega) (by simp) hp (by decide)
    rw [show [x, x].foldl (· * ·) 1 = x ^ 2 from by simp [Nat.pow_succ], ha] at h
    exact h)
  obtain ⟨R, hR⟩ : ∃ R, rtx 2 p 37 0 = R := ⟨_, rfl⟩
  have HRR := Lib.hid hR
  have hRb : R < 137438953472 := by rw [← hR]; have := rtx_lt 2 p 37 0; omega
  rw [hR]
  clear hR
  go_enter Tryd.func45, Tryd.ntmps45
  go_wp2
  go_loopg [3, 4] 37 (fun g s3 s4 wx => ∃ (r bit : Nat), s3 = .int .u64 (r : Int) ∧ s4 = .int .u64 (bit : Int) ∧ bit = 2 ^ g / 2 ∧ g ≤ 37 ∧ r + 2 ^ g ≤ 137438953472 ∧ rtx 2 p g r = R ∧ Ext w wx)
  case atStart => exact ⟨0, 68719476736, rfl, rfl, by decide, Nat.le_refl _, by decide, HRR.out, Ext.refl _⟩
  case round =>
    obtain ⟨r, bit, rfl, rfl, hbit, hg37, hrb, hrt, hx⟩ := hrel
    have HX := Lib.hid hx
    clear hx
    cases gk with
    | zero =>
      have hb0 : bit = 0 := by rw [hbit]
      subst hb0
      have hrr : r = R := hrt
      obtain ⟨y, hy⟩ : ∃ y, R % 4294967296 = y := ⟨_, rfl⟩
      have e1 : (R : Int) % 4294967296 = (y : Int) := by omega
      have e2 : IntKind.u32.wrap (y : Int) = (y : Int) := by rw [IntKind.wrap_u32]; omega
      have HY := Lib.hid hy
      clear hbit hrt hy
      subst hrr
      go_wp2
      go_ret
      exact ⟨ret_int (by rw [HY.out]), HX.out⟩
    | succ g =>
      have hbg : bit = 2 ^ g := by rw [hbit, Nat.pow_succ, Nat.mul_div_cancel _ (by decide)]
      have hbp : 0 < bit := by rw [hbg]; exact Nat.two_pow_pos g
      have d1 : decide ((0 : Int) < (bit : Int)) = true := decide_eq_true (by omega)
      have d2 : decide (0 < bit) = true := decide_eq_true hbp
      rw [Nat.pow_succ, ← hbg] at hrb
      rw [rtx, ← hbg] at hrt
      obtain ⟨x, hxx⟩ : ∃ x, r + bit = x := ⟨_, rfl⟩
      rw [hxx] at hrt
      have e1 : (r : Int) + (bit : Int) = (x : Int) := by omega
      obtain ⟨b2, hb2⟩ : ∃ b2, bit / 2 = b2 := ⟨_, rfl⟩
      have e2 : (bit : Int) / 2 = (b2 : Int) := by omega
      have HB2 := Lib.hid (show b2 = 2 ^ g / 2 by rw [← hb2, hbg])
      have HBG := Lib.hid hbg
      have hxb : x < 1099511627776 := by omega
      have hx64 : x < 18446744073709551616 := by omega
      by_cases hab : p * 65536 ^ (2 * 2) < x ^ 2
      · have HA := Lib.hid (HAB.out x true wr hxb (decide_eq_true hab))
        rw [if_pos hab] at hrt
        have HRT := Lib.hid hrt
        have HFIT := Lib.hid (show r + 2 ^ g ≤ 137438953472 by rw [← hbg]; omega)
        clear hab hrt hbit hbg hxx hb2
        go_wp2_with fail
        refine HA.out.mono ?_
        rintro e w1 ⟨rfl, hx1⟩
        have HX1 := Lib.hid ((HX.out.alloc _).trans hx1)
        clear hx1
        go_wp2
        go_roundg g
        case measure => omega
        case rel => exact ⟨r, b2, rfl, by go_num, HB2.out, by omega, HFIT.out, HRT.out, HX1.out⟩
      · have HA := Lib.hid (HAB.out x false wr hxb (decide_eq_false hab))
        rw [if_neg hab] at hrt
        have HRT := Lib.hid hrt
        have HFIT := Lib.hid (show x + 2 ^ g ≤ 137438953472 by rw [← hbg]; omega)
        clear hab hrt hbit hbg hxx hb2
        go_wp2_with fail
        refine HA.out.mono ?_
        rintro e w1 ⟨rfl, hx1⟩
        have HX1 := Lib.hid ((HX.out.alloc _).trans hx1)
        clear hx1
        go_wp2
        go_roundg g
        case measure => omega
        case rel => exact ⟨x, b2, rfl, by go_num, HB2.out, by omega, HFIT.out, HRT.out, HX1.out⟩

set_option maxHeartbeats 800000 in
set_option maxRecDepth 100000 in
theorem ref10_cube (p : Nat) (w : World) (hp : p < 65536) :
    Calls Tryd.prog 46 #[.int .u64 (p : Int)] w (Tells (.int .u32 ((rtx 3 p 37 0 % 4294967296 : Nat) : Int)) w) := by
  have HAB := Lib.hid (fun (x : Nat) (ans : Bool) (W : World) (hx : x < 1099511627776) (ha : decide (p * 65536 ^ (2 * 3) < x ^ 3) = ans) => show Calls Tryd.prog 59 #[.slice (some ⟨W.heap.size, 0, none⟩) 3 3, .int .u64 (p : Int), .int .i64 3] (W.alloc (.cells (nv .u64 [x, x, x]).toArray 68)) (Tells (.bool ans) (W.alloc (.cells (nv .u64 [x, x, x]).toArray 68))) from by
    have h := ref10_above [x, x, x] p 3 W.heap.size 0 3 (W.alloc (.cells (nv .u64 [x, x, x]).toArray 68)) (fun i hi => by
      obtain ⟨b, o, e, hc⟩ := nrd_lit (k := .u64) (T := 68) W [x, x, x] i hi
      injection e with e
      injection e with e1 e2
      subst e1; subst e2
      exact hc) (fun f hf => by simp at hf; omega) (by simp) hp (by decide)
    rw [show [x, x, x].foldl (· * ·) 1 = x ^ 3 from by simp [Nat.pow_succ], ha] at h
    exact h)
  obtain ⟨R, hR⟩ : ∃ R, rtx 3 p 37 0 = R := ⟨_, rfl⟩
  have HRR := Lib.hid hR
  have hRb : R < 137438953472 := by rw [← hR]; have := rtx_lt 3 p 37 0; omega
  rw [hR]
  clear hR
  go_enter Tryd.func46, Tryd.ntmps46
  go_wp2
  go_loopg [3, 4] 37 (fun g s3 s4 wx => ∃ (r bit : Nat), s3 = .int .u64 (r : Int) ∧ s4 = .int .u64 (bit : Int) ∧ bit = 2 ^ g / 2 ∧ g ≤ 37 ∧ r + 2 ^ g ≤ 137438953472 ∧ rtx 3 p g r = R ∧ Ext w wx)
  case atStart => exact ⟨0, 68719476736, rfl, rfl, by decide, Nat.le_refl _, by decide, HRR.out, Ext.refl _⟩
  case round =>
    obtain ⟨r, bit, rfl, rfl, hbit, hg37, hrb, hrt, hx⟩ := hrel
    have HX := Lib.hid hx
    clear hx
    cases gk with
    | zero =>
      have hb0 : bit = 0 := by rw [hbit]
      subst hb0
      have hrr : r = R := hrt
      obtain ⟨y, hy⟩ : ∃ y, R % 4294967296 = y := ⟨_, rfl⟩
      have e1 : (R : Int) % 4294967296 = (y : Int) := by omega
      have e2 : IntKind.u32.wrap (y : Int) = (y : Int) := by rw [IntKind.wrap_u32]; omega
      have HY := Lib.hid hy
      clear hbit hrt hy
      subst hrr
      go_wp2
      go_ret
      exact ⟨ret_int (by rw [HY.out]), HX.out⟩
    | succ g =>
      have hbg : bit = 2 ^ g := by rw [hbit, Nat.pow_succ, Nat.mul_div_cancel _ (by decide)]
      have hbp : 0 < bit := by rw [hbg]; exact Nat.two_pow_pos g
      have d1 : decide ((0 : Int) < (bit : Int)) = true := decide_eq_true (by omega)
      have d2 : decide (0 < bit) = true := decide_eq_true hbp
      rw [Nat.pow_succ, ← hbg] at hrb
      rw [rtx, ← hbg] at hrt
      obtain ⟨x, hxx⟩ : ∃ x, r + bit = x := ⟨_, rfl⟩
      rw [hxx] at hrt
      have e1 : (r : Int) + (bit : Int) = (x : Int) := by omega
      obtain ⟨b2, hb2⟩ : ∃ b2, bit / 2 = b2 := ⟨_, rfl⟩
      have e2 : (bit : Int) / 2 = (b2 : Int) := by omega
      have HB2 := Lib.hid (show b2 = 2 ^ g / 2 by rw [← hb2, hbg])
      have HBG := Lib.hid hbg
      have hxb : x < 1099511627776 := by omega
      have hx64 : x < 18446744073709551616 := by omega
      by_cases hab : p * 65536 ^ (2 * 3) < x ^ 3
      · have HA := Lib.hid (HAB.out x true wr hxb (decide_eq_true hab))
        rw [if_pos hab] at hrt
        have HRT := Lib.hid hrt
        have HFIT := Lib.hid (show r + 2 ^ g ≤ 137438953472 by rw [← hbg]; omega)
        clear hab hrt hbit hbg hxx hb2
        go_wp2_with fail
        refine HA.out.mono ?_
        rintro e w1 ⟨rfl, hx1⟩
        have HX1 := Lib.hid ((HX.out.alloc _).trans hx1)
        clear hx1
        go_wp2
        go_roundg g
        case measure => omega
        case rel => exact ⟨r, b2, rfl, by go_num, HB2.out, by omega, HFIT.out, HRT.out, HX1.out⟩
      · have HA := Lib.hid (HAB.out x false wr hxb (decide_eq_false hab))
        rw [if_neg hab] at hrt
        have HRT := Lib.hid hrt
        have HFIT := Lib.hid (show x + 2 ^ g ≤ 137438953472 by rw [← hbg]; omega)
        clear hab hrt hbit hbg hxx hb2
        go_wp2_with fail
        refine HA.out.mono ?_
        rintro e w1 ⟨rfl, hx1⟩
        have HX1 := Lib.hid ((HX.out.alloc _).trans hx1)
        clear hx1
        go_wp2
        go_roundg g
        case measure => omega
        case rel => exact ⟨x, b2, rfl, by go_num, HB2.out, by omega, HFIT.out, HRT.out, HX1.out⟩
end Go.Proofs.YthbfodmpoheahaaDoor

/-
  What the document's own primes of layer 10 does, of sixty-four. Conditions: none.
-/
namespace Go.Proofs.YthbfodmpoheahaaDoor
open Go.RowKit
open Pol (co Sm)

theorem prs_pos : ∀ n, ∀ q ∈ prs n, 2 ≤ q ∧ q < n
  | 0, q, h => by cases h
  | n + 1, q, h => by
    rw [prs] at h
    split at h
    · rename_i hc
      rcases List.mem_append.1 h with h | h
      · have := prs_pos n q h; omega
      · have : q = n := by simpa using h
        omega
    · have := prs_pos n q h; omega
theorem all_take (l : List Nat) (f : Nat → Bool) (i : Nat) (h : i < l.length) : (l.take (i + 1)).all f = ((l.take i).all f && f (co l i)) := by
  rw [take_snoc l i h, List.all_append]
  simp

set_option maxHeartbeats 800000 in
set_option maxRecDepth 100000 in
theorem ref10_primes (w : World) : Calls Tryd.prog 44 #[.int .i64 64] w (GivesN .u64 68 PR w) := by
  unfold GivesN
  have HPR := Lib.hid prs_last
  have HFEW := Lib.hid prs_few
  have HPOS := Lib.hid prs_pos
  generalize PR = V at *
  have HV64 := Lib.hid (show (prs 312).length = 64 from by rw [prs_last]; rfl)
  go_enter Tryd.func44, Tryd.ntmps44
  go_wp2
  go_loopg [3, 4] 310 (fun g s3 s4 wx => ∃ n : Nat, n + g = 312 ∧ 2 ≤ n ∧ s4 = .int .u64 (n : Int) ∧ NMine 68 .u64 wx w.heap.size s3 (prs n) ∧ Ext w wx)
  case atStart => exact ⟨2, by decide, by decide, rfl, NMine.nil _ _, Ext.refl _⟩
  case round =>
    obtain ⟨n, hng, hn2, rfl, hm, hx⟩ := hrel
    have HM := Lib.hid hm
    have HX := Lib.hid hx
    obtain ⟨B3, c3, rfl, hc3, hr3⟩ := hm.slice
    have HR3 := Lib.hid hr3
    have hs := hx.size
    clear hm hx hr3
    cases gk with
    | zero =>
      obtain rfl : n = 312 := by omega
      have hl := HV64.out
      obtain ⟨LL, hLL⟩ : ∃ LL, (prs 312).length = LL := ⟨_, rfl⟩
      rw [hLL] at hl HM ⊢
      obtain rfl : LL = 64 := hl
      rw [HPR.out] at HM
      clear hLL
      go_wp2
      go_ret
      exact ⟨_, rfl, HM.out, HX.out⟩
    | succ g =>
      have hn : n < 312 := by omega
      have hlt := HFEW.out n hn
      have HPN := Lib.hid (HPOS.out n)
      have HST := Lib.hid (show prs (n + 1) = if (prs n).all (fun q => n % q != 0) then prs n ++ [n] else prs n from by
        rw [prs]
        by_cases h : ((prs n).all fun q => n % q != 0) = true
        · rw [if_pos ⟨hn2, h⟩, if_pos h]
        · rw [if_neg (fun h' => h h'.2), if_neg h])
      obtain ⟨P, hP⟩ : ∃ P, prs n = P := ⟨_, rfl⟩
      rw [hP] at HM HR3 hlt HPN HST hc3 ⊢
      obtain ⟨L, hL⟩ : ∃ L, P.length = L := ⟨_, rfl⟩
      have HL := Lib.hid hL
      rw [hL] at HM hlt hc3 ⊢
      have d1 : decide ((L : Int) < 64) = true := decide_eq_true (by omega)
      have HNG := Lib.hid hng
      clear hP hL hng
      go_wp2
      obtain ⟨wq, hwq⟩ : ∃ q, q = wr := ⟨_, rfl⟩
      subst hwq
      go_loopg [5, 15] L (fun g s5 s15 wx => ∃ i : Nat, i + g = L ∧ s15 = .int .i64 (i : Int) ∧ s5 = .bool ((P.take i).all (fun q => n % q != 0)) ∧ wq = wx)
      case atStart => exact ⟨0, by omega, rfl, rfl, rfl⟩
      case round =>
        obtain ⟨i, hig, rfl, rfl, rfl⟩ := hrel
        cases gk with
        | zero =>
          obtain rfl : i = L := by omega
          have hT : P.take i = P := by rw [← HL.out, List.take_length]
          rw [hT]
          by_cases hall : (P.all fun q => n % q != 0) = true
          · have HS2 := Lib.hid (HST.out.trans (if_pos hall))
            rw [hall]
            clear hig hall hT
            go_wp2_with (at_builtin; refine wpList_append_nums nt64 rfl (.tmp 30) (.tmp 32) rfl w.heap.size (.slice B3 i c3) P [n] rfl (HM.out.ext ((Ext.refl _).alloc _)) wq.heap.size 0 1 1 rfl rfl one_num (by rw [HL.out]; simp; omega) (by simp; omega) ?_; intro v7 w7 hown7 hg7 hat7; rw [← HS2.out] at hown7; have HX7 := Lib.hid ((HX.out.alloc (.cells #[.int .u64 (n : Int)] 68)).more hg7 (fun q hq => (HM.out.block q hq).1)); have HM7 := Lib.hid hown7; clear hown7 hg7 hat7)
            go_roundg g
            case measure => omega
            case rel => exact ⟨n + 1, by have := HNG.out; omega, by omega, by go_num, HM7.out, HX7.out⟩
          · have hall' : (P.all fun q => n % q != 0) = false := by simpa using hall
            have HS2 := Lib.hid (HST.out.trans (if_neg hall))
            rw [hall']
            clear hig hall hT hall'
            go_wp2
            go_roundg g
            case measure => omega
            case rel => exact ⟨n + 1, by have := HNG.out; omega, by omega, by go_num, by rw [HS2.out]; exact HM.out, HX.out⟩
        | succ g2 =>
          have hi : i < L := by omega
          have hiI : (i : Int) < (L : Int) := by omega
          obtain ⟨b, o, rfl, hc⟩ := HR3.out i (by rw [HL.out]; exact hi)
          have HAT := Lib.hid (all_take P (fun q => n % q != 0) i (by rw [HL.out]; exact hi))
          have hq := HPN.out (co P i) (by unfold co; rw [List.getElem?_eq_getElem (by rw [HL.out]; exact hi)]; exact List.getElem_mem _)
          obtain ⟨q, hqe⟩ : ∃ q, co P i = q := ⟨_, rfl⟩
          rw [hqe] at hc hq HAT
          obtain ⟨r, hr⟩ : ∃ r, n % q = r := ⟨_, rfl⟩
          have e1 : (n : Int) % (q : Int) = (r : Int) := by rw [← hr]; omega
          have hqI : (q : Int) ≠ 0 := by omega
          clear hqe
          cases hb : (P.take i).all (fun q => n % q != 0) with
          | false =>
            have HB := Lib.hid (show (P.take (i + 1)).all (fun q => n % q != 0) = false from by rw [HAT.out, hb]; rfl)
            clear hb hr
            go_wp2
            go_roundg g2
            case measure => omega
            case rel => exact ⟨i + 1, by omega, by go_num, by rw [HB.out], rfl⟩
          | true =>
            have HB := Lib.hid (show (P.take (i + 1)).all (fun q => n % q != 0) = (r != 0) from by rw [HAT.out, hb, hr]; rfl)
            clear hb hr
            by_cases hr0 : r = 0
            · subst hr0
              go_wp2
              go_roundg g2
              case measure => omega
              case rel => exact ⟨i + 1, by omega, by go_num, by rw [HB.out]; rfl, rfl⟩
            · have d2 : ((r : Int) != 0) = true := by simp; omega
              have d3 : (r != 0) = true := by simp; omega
              have d4 : decide (r = 0) = false := decide_eq_false hr0
              have d5 : ((r : Int) == 0) = false := by simp; omega
              go_wp2
              go_roundg g2
              case measure => omega
              case rel => exact ⟨i + 1, by omega, by go_num, by rw [HB.out, d3], rfl⟩
end Go.Proofs.YthbfodmpoheahaaDoor

/-
  What the document's own turn of layer 10 does. Conditions: a word, by less than 32.
-/
namespace Go.Proofs.YthbfodmpoheahaaDoor
open Go.RowKit
open Pol (co Sm)

set_option maxHeartbeats 400000 in
theorem ref10_turn (x n : Nat) (w : World) (hx : x < 4294967296) (hn : n < 32) :
    Calls Tryd.prog 47 #[.int .u32 (x : Int), .int .u64 (n : Int)] w (fun e w' => e = .returned (.int .u32 ((tw x n : Nat) : Int)) ∧ w = w') := by
  obtain ⟨m, hm⟩ : ∃ m, 32 - n = m := ⟨_, rfl⟩
  obtain ⟨q, hq⟩ : ∃ q, x / 2 ^ n = q := ⟨_, rfl⟩
  obtain ⟨y, hy⟩ : ∃ y, x * 2 ^ m % 4294967296 = y := ⟨_, rfl⟩
  obtain ⟨z, hz⟩ : ∃ z, tw x n = z := ⟨_, rfl⟩
  have e1 : IntKind.u64.wrap (32 - (n : Int)) = (m : Int) := by rw [IntKind.wrap_u64]; omega
  have e1' : 32 - (n : Int) = (m : Int) := by omega
  have e2 : (x : Int) / 2 ^ n = (q : Int) := by rw [← hq]; simp
  have e3 : IntKind.u32.wrap ((x : Int) * 2 ^ m) = (y : Int) := by
    rw [IntKind.wrap_u32, ← hy]
    simp
  have hqb : q < 4294967296 := by rw [← hq]; exact Nat.lt_of_le_of_lt (Nat.div_le_self _ _) hx
  have hyb : y < 4294967296 := by rw [← hy]; exact Nat.mod_lt _ (by decide)
  have e4 : bits .or .u32 (q : Int) (y : Int) = (z : Int) := by
    rw [u32_or_nat q y hqb hyb, ← hz]
    unfold tw
    rw [hm, hq, hy]
  rw [hz]
  clear hm hq hy hz
  go_enter Tryd.func47, Tryd.ntmps47
  go_wp2
  go_ret
  exact ⟨rfl, rfl⟩
end Go.Proofs.YthbfodmpoheahaaDoor

/-
  Part 7 of the texts that the seat's proofs stand on; each part of it begins with its own sentence and conditions. Conditions: those that each theorem names.
-/
import Derived.Test.YthbfodmpoheahaaDoorJudgesPack6

/-
  What the document's own lift of layer 11 does, to the left. Conditions: under what its Of is to do; at most 2^20 texts, a place below them.
-/
namespace Go.Proofs.YthbfodmpoheahaaDoor
open Go.RowKit
open Pol (co Sm)

set_option maxHeartbeats 1600000 in
set_option maxRecDepth 100000 in
theorem ref11_lift_lo (R : RefOf) (n i k : Nat) (d : List Nat) (ps : List (List Nat)) (x : List Nat) (A : Option Addr) (c : Nat) (w : World) (h2 : 2 ≤ n) (hnb : n ≤ 1048576) (hd : d.length = 32) (hsm : Sm d) (hr : DRd w A (ps ++ [x])) (hc : ps.length + 1 ≤ c) (hpl : ps.length + 1 ≤ 1048576)
    (hk : spl n = k) (hik : i < k)
    (ih : ∀ W, Ext w W → DRd W A ps → Calls Tryd.prog 33 #[dgv d, .int .i64 (i : Int), .int .i64 (k : Int), .slice A ps.length c] W (LiftS d k i ps W)) :
    Calls Tryd.prog 33 #[dgv d, .int .i64 (i : Int), .int .i64 (n : Int), .slice A (ps.length + 1) c] w (LiftS d n i (ps ++ [x]) w) := by
  obtain ⟨g0, hg0⟩ : ∃ g, w.heap.size = g := ⟨_, rfl⟩
  have HW0 := Lib.hid hg0
  have hz := zero_digest.1
  have HZ32 := Lib.hid (fun (_ : Unit) => show (bt 32 fun _ => 0).size = 32 from bt_size _ _)
  have HZV := Lib.hid (fun (_ : Unit) => show (bt 32 fun _ => 0) = bt 32 (co (List.replicate 32 0)) from bt_zero)
  obtain ⟨Z, hZ⟩ : ∃ Z, (bt 32 fun _ => 0) = Z := ⟨_, rfl⟩
  rw [hZ] at hz HZ32 HZV
  have HZZ := Lib.hid hZ
  have HD := Lib.hid (And.intro hd hsm)
  have HVD := Lib.hid (bt_dgc d)
  obtain ⟨VD, hVD⟩ : ∃ V, bt 32 (co d) = V := ⟨_, rfl⟩
  have HVE := Lib.hid hVD
  rw [hVD] at HVD
  have hx1 := ((Ext.refl w).alloc (.cells VD 30)).alloc (.cells Z 30)
  have hs1 : ((w.alloc (.cells VD 30)).alloc (.cells Z 30)).heap.size = g0 + 2 := by rw [← hg0]; simp
  have hr0 : ((w.alloc (.cells VD 30)).alloc (.cells Z 30)).heap[g0]? = some (.cells VD 30 (0, 0)) := by
    rw [heap_alloc_old _ _ (by simp; omega), ← hg0]; exact heap_alloc_new w _
  have hr1 : ((w.alloc (.cells VD 30)).alloc (.cells Z 30)).heap[g0 + 1]? = some (.cells Z 30 (0, 0)) := by
    have h := heap_alloc_new (w.alloc (.cells VD 30)) (.cells Z 30)
    rw [show (w.alloc (.cells VD 30)).heap.size = g0 + 1 from by rw [← hg0]; simp] at h
    exact h
  obtain ⟨w1, hw1⟩ : ∃ q, (w.alloc (.cells VD 30)).alloc (.cells Z 30) = q := ⟨_, rfl⟩
  rw [hw1] at hx1 hs1 hr0 hr1
  have HW1 := Lib.hid hw1
  have HX1 := Lib.hid hx1
  have HZ1 := Lib.hid hs1
  have HR0 := Lib.hid hr0
  have HR1 := Lib.hid hr1
  have HIV := Lib.hid HVD.out.info
  have HOV := Lib.hid HVD.out.one
  have HZV9 := Lib.hid (show Z.size = VD.size from by rw [HVD.out.1]; exact HZ32.out ())
  have HLV := Lib.hid (fun (W : World) (h : AfterH w1 W) => show (Instr.loadAt 30 (.pointer (some ⟨g0, 0, none⟩))).run Tryd.prog W = .ok (.agg VD) W from by
    have h2 := load_blk W g0 d 30 (0, 0) (by rw [HVE.out]; exact WBlk.ext' HR0.out h)
    unfold dgv at h2
    rw [HVE.out] at h2
    exact h2)
  unfold dgv
  rw [hVD]
  clear hx1 hs1 hr0 hr1 hw1 hVD
  have HR := Lib.hid hr
  have HPL := Lib.hid (show (ps ++ [x]).length = ps.length + 1 from by simp)
  have hk1 := spl_lt h2
  have hk0 := spl_pos n
  have HSP := Lib.hid (fun W => ref11_split n W (by omega))
  have HXX := Lib.hid (show x.length = 32 ∧ Sm x from by
    have h := HR.out.one ps.length (by rw [HPL.out]; omega)
    rw [show ro (ps ++ [x]) ps.length = x from by unfold ro; simp] at h
    exact h)
  have HRQ := Lib.hid (show DRd w A ps from by
    have h := HR.out.take ps.length
    rwa [List.take_left] at h)
  obtain ⟨b, o, rfl, hcell⟩ := HR.out.addr (by rw [HPL.out]; omega)
  have HCL := Lib.hid (show ∀ j, j < 32 → w.cell? ⟨b, o + ps.length * 32 + j, none⟩ = some (.int .u8 ((co x j : Nat) : Int)) from fun j hj => by
    have h := hcell ps.length (by rw [HPL.out]; omega) j hj
    rw [show ro (ps ++ [x]) ps.length = x from by unfold ro; simp] at h
    exact h)
  have HMX := Lib.hid (mlift_lo sha d i ps x h2 (by rw [hk]; exact hik))
  rw [hk] at hk1 hk0 HSP HMX
  have HIH := Lib.hid (fun W (h : Ext w W) => ih W h (HRQ.out.ext h))
  obtain ⟨p, hp⟩ : ∃ p, ps.length = p := ⟨_, rfl⟩
  rw [hp] at HCL hc hpl HIH ⊢
  have ht := fun W => run_to_dig (some ⟨b, o, none⟩) (p + 1) c p (by omega) W
  have HLX := Lib.hid (fun (W : World) (h : Ext w W) => show (Instr.loadAt 30 (.pointer (some ⟨b, o + p * 32, none⟩))).run Tryd.prog W = .ok (dgv x) W from run_load_dig W b (o + p * 32) x (fun j hj => by rw [(h.below.cell (p := ⟨b, o + p * 32 + j, none⟩) (block_lt_of_cell (HCL.out j hj)))]; exact HCL.out j hj))
  have d1 : decide ((n : Int) = 1) = false := decide_eq_false (by omega)
  have n1 : ¬ (n : Int) = 1 := by omega
  have n2 : ¬ n = 1 := by omega
  have d2 : decide (((p + 1 : Nat) : Int) = 0) = false := decide_eq_false (by omega)
  have n3 : ¬ ((p + 1 : Nat) : Int) = 0 := by omega
  have n4 : ¬ (p : Int) + 1 = 0 := by omega
  have hp0 : (0 : Int) ≤ (p : Int) := by omega
  have hp1 : (p : Int) < ((p + 1 : Nat) : Int) := by omega
  have hp2 : (p : Int) < (p : Int) + 1 := by omega
  have hp3 : p < p + 1 := by omega
  have d3 : decide ((i : Int) < (k : Int)) = true := decide_eq_true (by omega)
  have n5 : (i : Int) < (k : Int) := by omega
  have HC3 := Lib.hid (fun W (h : Ext w W) y (hy : y.length = 32) (hsy : Sm y) => ref11_both R y x W hy HXX.out.1 hsy HXX.out.2)
  have hpb : p ≤ 1048577 := Nat.le_trans (Nat.le_of_succ_le hpl) (by decide)
  have e3 := w64_nat p hpb
  have e1 := w64_pred p hpb
  have e2 := w64_prd p hpb
  unfold LiftS at HIH
  unfold dgv at HIH HLX HC3
  rw [HVE.out] at HIH
  obtain ⟨VX, hVX⟩ : ∃ V, bt 32 (co x) = V := ⟨_, rfl⟩
  have HVX := Lib.hid hVX
  rw [hVX] at HLX HC3
  clear hpb hcell hk hp hnb hd hsm hZ hpl hc h2 ih hk0 hk1 hik hVX hr
  go_enter Tryd.func33, Tryd.ntmps33
  go_wp2_with fail
  rw [HW1.out]
  refine (HSP.out _).mono ?_
  rintro e w2 ⟨rfl, q, rfl⟩
  have HX2 := Lib.hid (show AfterH w1 (w1.drewN q) from (Ext.refl w1).drewN q)
  generalize w1.drewN q = w2 at HX2 ⊢
  obtain ⟨u, hu⟩ : ∃ u, w2.drew = u := ⟨_, rfl⟩
  have HXU := Lib.hid (show AfterH w1 u from by rw [← hu]; exact Ext.drew HX2.out)
  go_wp2_with (refine wp_region_plan (AfterH w1) [0, 1, 2, 3, 4, 5, 6, 7, 8, 9, 10, 11] (.yes 0 (.yes 1 (.yes 2 (.yes 3 (.yes 4 (.yes 5 (.two 6 (.yes 7 (.yes 8 (.yes 9 (.one 10 (.one 11 (.one 12 .done)))))) 10 (.one 6 (.yes 7 (.yes 8 (.yes 9 (.one 11 (.one 12 .done))))))))))))) (by kernel_rfl) (fun c a a' w e h => ⟨e ▸ h.1, h.2⟩) (by kernel_rfl) (by rw [hu]; exact HXU.out) ?_)
  rw [hu]
  clear hu
  refine plan_load rfl 30 (.tmp 4) rfl (.agg VD) (by rfl) (fun W hW => HLV.out W hW) ?_
  refine plan_yes rfl (fun K hK => ?_); go_simp; refine ⟨_, fun _ _ => rfl, hK _ ?_⟩; clear hK K
  refine plan_yes rfl (fun K hK => ?_); go_simp; refine ⟨_, fun _ _ => rfl, hK _ ?_⟩; clear hK K
  refine plan_yes rfl (fun K hK => ?_); go_simp; refine ⟨_, fun _ _ => rfl, hK _ ?_⟩; clear hK K
  refine plan_yes rfl (fun K hK => ?_); go_simp; refine ⟨_, fun _ _ => rfl, hK _ ?_⟩; clear hK K
  refine plan_yes rfl (fun K hK => ?_); go_simp; refine ⟨_, fun _ _ => rfl, hK _ ?_⟩; clear hK K
  refine plan_two rfl rfl (fun K hK => ?_) (fun K hK => ?_)
  · skip
    go_wp2_with fail
    refine (HIH.out _ (HX1.out.trans HXU.out)).mono ?_
    rintro e v4 ⟨y, ok, rfl, hy, hsy, hx4, hml⟩
    have HX4 := Lib.hid (show AfterH w1 v4 from Ext.trans HXU.out hx4)
    have HY := Lib.hid (And.intro hy hsy)
    have HMY := Lib.hid hml
    clear hy hsy hx4 hml
    obtain ⟨VY, hVY⟩ : ∃ V, bt 32 (co y) = V := ⟨_, rfl⟩
    have HVY := Lib.hid (show Dgc VY y from by rw [← hVY]; exact bt_dgc y)
    have HVYE := Lib.hid hVY
    rw [hVY]
    clear hVY
    go_wp2
    refine ⟨fun _ => HX4.out, ?_⟩
    refine plan_yes rfl (fun K hK => ?_); go_simp; refine ⟨_, fun _ _ => rfl, hK _ ?_⟩; clear hK K
    refine plan_yes rfl (fun K hK => ?_); go_simp; refine ⟨_, fun _ _ => rfl, hK _ ?_⟩; clear hK K
    refine plan_yes rfl (fun K hK => ?_); go_simp; refine ⟨_, fun _ _ => rfl, hK _ ?_⟩; clear hK K
    refine plan_one rfl (fun K hK => ?_)
    obtain ⟨gx, hgx⟩ : ∃ g, (v4).heap.size = g := ⟨_, rfl⟩
    have HGX := Lib.hid (show ((v4).alloc (.cells Z 30)).heap[gx]? = some (.cells Z 30 (0, 0)) from by rw [← hgx]; exact heap_alloc_new _ _)
    have HX5 := Lib.hid (show AfterH w1 ((v4).alloc (.cells Z 30)) from Ext.alloc HX4.out _)
    have HGB := Lib.hid (show w1.heap.size ≤ gx from by rw [← hgx]; exact Ext.size HX4.out)
    go_wp2
    refine ⟨fun _ => HX5.out, ?_⟩
    generalize (v4).alloc (.cells Z 30) = v5 at HX5 HGX ⊢
    clear hgx
    have HIY := Lib.hid HVY.out.info
    have HOY := Lib.hid HVY.out.one
    have HZY := Lib.hid (show Z.size = VY.size from by rw [HVY.out.1]; exact HZ32.out ())
    have HX6 := Lib.hid (show Ext w1 (v5.setRow gx VY) from Ext.setRow HX5.out HGB.out VY)
    have HG6 := Lib.hid (setRow_heap _ gx _ VY _ _ HGX.out)
    refine plan_one rfl (fun K hK => ?_)
    go_wp2_with (with_reducible refine wpList_store_all rfl 30 (.tmp 12) (.tmp 42) rfl gx Z VY rfl rfl HGX.out HIY.out HZY.out HOY.out ?_)
    refine ⟨fun _ => HX6.out, ?_⟩
    refine plan_one rfl (fun K hK => ?_)
    go_wp2
    refine ⟨fun h => absurd h (by decide), ?_⟩
    unfold wpPlan
    generalize v5.setRow gx VY = v6 at HX6 HG6 ⊢
    go_wp2
    obtain ⟨u6, hu6⟩ : ∃ u, v6.drew = u := ⟨_, rfl⟩
    have HXU6 := Lib.hid (show AfterH v6 u6 from by rw [← hu6]; exact (Ext.refl v6).drew)
    have LY := Lib.hid (fun (W : World) (h : AftG w gx VY W) => show (Instr.loadAt 30 (.pointer (some ⟨gx, 0, none⟩))).run Tryd.prog W = .ok (.agg VY) W from by
      have h2 := load_blk W gx y 30 (0, 0) (by rw [HVYE.out]; exact h.2)
      unfold dgv at h2
      rw [HVYE.out] at h2
      exact h2)
    have HB := Lib.hid (fun (W : World) (h : AfterH v6 W) => HC3.out W (HX1.out.trans (HX6.out.trans h)) y HY.out.1 HY.out.2)
    rw [HVYE.out] at HB
    refine wp_region_plan (AftG w gx VY) [0, 1, 2, 3, 4, 5, 6, 7] (.yes 0 (.yes 1 (.yes 2 (.yes 3 (.yes 4 (.yes 6 (.one 5 (.one 7 (.one 8 .done))))))))) (by kernel_rfl) (fun c a a' w e h => ⟨e ▸ h.1, h.2⟩) (by kernel_rfl) (by rw [hu6]; exact ⟨HX1.out.trans (HX6.out.trans HXU6.out), WBlk.ext' HG6.out HXU6.out⟩) ?_
    rw [hu6]
    clear hu6
    refine plan_load rfl 30 (.tmp 12) rfl (.agg VY) (by rfl) (fun W hW => LY.out W hW) ?_
    refine plan_yes rfl (fun K hK => ?_); go_simp; refine ⟨_, fun _ _ => rfl, hK _ ?_⟩; clear hK K
    refine plan_yes rfl (fun K hK => ?_); go_simp; refine ⟨_, fun _ _ => rfl, hK _ ?_⟩; clear hK K
    refine plan_yes rfl (fun K hK => ?_); go_simp; refine ⟨_, fun _ _ => rfl, hK _ ?_⟩; clear hK K
    refine plan_load rfl 30 (.tmp 47) rfl (.agg VX) (by rfl) (fun W hW => HLX.out W hW.1) ?_
    refine plan_yes rfl (fun K hK => ?_); go_simp; refine ⟨_, fun _ _ => rfl, hK _ ?_⟩; clear hK K
    refine plan_one rfl (fun K hK => ?_)
    go_wp2_with fail
    refine (HB.out _ HXU6.out).mono ?_
    rintro e w9 ⟨rfl, hx9⟩
    have HX9 := Lib.hid (show AfterH v6 w9 from Ext.trans HXU6.out hx9)
    clear hx9
    obtain ⟨D, hD⟩ : ∃ D, nd sha y x = D := ⟨_, rfl⟩
    have HDL := Lib.hid (show D.length = 32 ∧ Sm D from by rw [← hD]; exact ⟨sha_len _, sha_sm _⟩)
    have HDE := Lib.hid hD
    rw [hD]
    clear hD
    obtain ⟨V, hV⟩ : ∃ V, bt 32 (co D) = V := ⟨_, rfl⟩
    have HVV := Lib.hid hV
    have HV := Lib.hid (show Dgc V D from by rw [← hV]; exact bt_dgc D)
    rw [hV]
    clear hV
    have HC9 := Lib.hid (show AftG w gx VY w9 from ⟨HX1.out.trans (HX6.out.trans HX9.out), WBlk.ext' HG6.out HX9.out⟩)
    go_wp2
    refine ⟨fun _ => HC9.out, ?_⟩
    have HR9 := Lib.hid (WBlk.ext' HR1.out (Ext.trans HX6.out HX9.out))
    have HI9 := Lib.hid HV.out.info
    have HO9 := Lib.hid HV.out.one
    have HZ9 := Lib.hid (show Z.size = V.size from by rw [HV.out.1]; exact HZ32.out ())
    have HG9 := Lib.hid (setRow_heap _ (g0 + 1) _ V _ _ HR9.out)
    have HXF := Lib.hid ((HX1.out.trans (HX6.out.trans HX9.out)).setRow (g := g0 + 1) (by rw [HW0.out]; omega) V)
    refine plan_one rfl (fun K hK => ?_)
    go_wp2_with (with_reducible refine wpList_store_all rfl 30 (.tmp 8) (.tmp 49) rfl (g0 + 1) Z V rfl rfl HR9.out HI9.out HZ9.out HO9.out ?_)
    refine ⟨fun _ => (show AftG w gx VY _ from ⟨HXF.out, setRow_far (by have := HGB.out; have := HZ1.out; omega) HC9.out.2⟩), ?_⟩
    refine plan_one rfl (fun K hK => ?_)
    go_wp2
    refine ⟨fun h => absurd h (by decide), ?_⟩
    unfold wpPlan
    go_wp2
    exact ⟨rfl, .tuple #[.agg V, .bool ok], results_rt Tryd.results33 _ _ (g0 + 1) 30 V (0, 0) rfl HG9.out HI9.out, D, ok, by rw [← HVV.out]; rfl, HDL.out.1, HDL.out.2, HXF.out, by rw [HMX.out, HMY.out, ← HDE.out]; cases ok <;> rfl⟩
  · skip
    obtain ⟨gx, hgx⟩ : ∃ g, (u).heap.size = g := ⟨_, rfl⟩
    have HGX := Lib.hid (show ((u).alloc (.cells Z 30)).heap[gx]? = some (.cells Z 30 (0, 0)) from by rw [← hgx]; exact heap_alloc_new _ _)
    have HX5 := Lib.hid (show AfterH w1 ((u).alloc (.cells Z 30)) from Ext.alloc HXU.out _)
    have HGB := Lib.hid (show w1.heap.size ≤ gx from by rw [← hgx]; exact Ext.size HXU.out)
    go_wp2
    refine ⟨fun _ => HX5.out, ?_⟩
    generalize (u).alloc (.cells Z 30) = v5 at HX5 HGX ⊢
    clear hgx
    refine plan_one rfl (fun K hK => ?_)
    go_wp2_with fail
    refine (HIH.out _ (HX1.out.trans HX5.out)).mono ?_
    rintro e v4 ⟨y, ok, rfl, hy, hsy, hx4, hml⟩
    have HX4 := Lib.hid (show AfterH w1 v4 from Ext.trans HX5.out hx4)
    have HY := Lib.hid (And.intro hy hsy)
    have HMY := Lib.hid hml
    have HGX4 := Lib.hid (WBlk.ext' HGX.out hx4)
    clear hy hsy hx4 hml
    obtain ⟨VY, hVY⟩ : ∃ V, bt 32 (co y) = V := ⟨_, rfl⟩
    have HVY := Lib.hid (show Dgc VY y from by rw [← hVY]; exact bt_dgc y)
    have HVYE := Lib.hid hVY
    rw [hVY]
    clear hVY
    go_wp2
    refine ⟨fun _ => HX4.out, ?_⟩
    refine plan_yes rfl (fun K hK => ?_); go_simp; refine ⟨_, fun _ _ => rfl, hK _ ?_⟩; clear hK K
    refine plan_yes rfl (fun K hK => ?_); go_simp; refine ⟨_, fun _ _ => rfl, hK _ ?_⟩; clear hK K
    refine plan_yes rfl (fun K hK => ?_); go_simp; refine ⟨_, fun _ _ => rfl, hK _ ?_⟩; clear hK K
    have HIY := Lib.hid HVY.out.info
    have HOY := Lib.hid HVY.out.one
    have HZY := Lib.hid (show Z.size = VY.size from by rw [HVY.out.1]; exact HZ32.out ())
    have HX6 := Lib.hid (show Ext w1 (v4.setRow gx VY) from Ext.setRow HX4.out HGB.out VY)
    have HG6 := Lib.hid (setRow_heap _ gx _ VY _ _ HGX4.out)
    refine plan_one rfl (fun K hK => ?_)
    go_wp2_with (with_reducible refine wpList_store_all rfl 30 (.tmp 12) (.tmp 42) rfl gx Z VY rfl rfl HGX4.out HIY.out HZY.out HOY.out ?_)
    refine ⟨fun _ => HX6.out, ?_⟩
    refine plan_one rfl (fun K hK => ?_)
    go_wp2
    refine ⟨fun h => absurd h (by decide), ?_⟩
    unfold wpPlan
    generalize v4.setRow gx VY = v6 at HX6 HG6 ⊢
    go_wp2
    obtain ⟨u6, hu6⟩ : ∃ u, v6.drew = u := ⟨_, rfl⟩
    have HXU6 := Lib.hid (show AfterH v6 u6 from by rw [← hu6]; exact (Ext.refl v6).drew)
    have LY := Lib.hid (fun (W : World) (h : AftG w gx VY W) => show (Instr.loadAt 30 (.pointer (some ⟨gx, 0, none⟩))).run Tryd.prog W = .ok (.agg VY) W from by
      have h2 := load_blk W gx y 30 (0, 0) (by rw [HVYE.out]; exact h.2)
      unfold dgv at h2
      rw [HVYE.out] at h2
      exact h2)
    have HB := Lib.hid (fun (W : World) (h : AfterH v6 W) => HC3.out W (HX1.out.trans (HX6.out.trans h)) y HY.out.1 HY.out.2)
    rw [HVYE.out] at HB
    refine wp_region_plan (AftG w gx VY) [0, 1, 2, 3, 4, 5, 6, 7] (.yes 0 (.yes 1 (.yes 2 (.yes 3 (.yes 4 (.yes 6 (.one 5 (.one 7 (.one 8 .done))))))))) (by kernel_rfl) (fun c a a' w e h => ⟨e ▸ h.1, h.2⟩) (by kernel_rfl) (by rw [hu6]; exact ⟨HX1.out.trans (HX6.out.trans HXU6.out), WBlk.ext' HG6.out HXU6.out⟩) ?_
    rw [hu6]
    clear hu6
    refine plan_load rfl 30 (.tmp 12) rfl (.agg VY) (by rfl) (fun W hW => LY.out W hW) ?_
    refine plan_yes rfl (fun K hK => ?_); go_simp; refine ⟨_, fun _ _ => rfl, hK _ ?_⟩; clear hK K
    refine plan_yes rfl (fun K hK => ?_); go_simp; refine ⟨_, fun _ _ => rfl, hK _ ?_⟩; clear hK K
    refine plan_yes rfl (fun K hK => ?_); go_simp; refine ⟨_, fun _ _ => rfl, hK _ ?_⟩; clear hK K
    refine plan_load rfl 30 (.tmp 47) rfl (.agg VX) (by rfl) (fun W hW => HLX.out W hW.1) ?_
    refine plan_yes rfl (fun K hK => ?_); go_simp; refine ⟨_, fun _ _ => rfl, hK _ ?_⟩; clear hK K
    refine plan_one rfl (fun K hK => ?_)
    go_wp2_with fail
    refine (HB.out _ HXU6.out).mono ?_
    rintro e w9 ⟨rfl, hx9⟩
    have HX9 := Lib.hid (show AfterH v6 w9 from Ext.trans HXU6.out hx9)
    clear hx9
    obtain ⟨D, hD⟩ : ∃ D, nd sha y x = D := ⟨_, rfl⟩
    have HDL := Lib.hid (show D.length = 32 ∧ Sm D from by rw [← hD]; exact ⟨sha_len _, sha_sm _⟩)
    have HDE := Lib.hid hD
    rw [hD]
    clear hD
    obtain ⟨V, hV⟩ : ∃ V, bt 32 (co D) = V := ⟨_, rfl⟩
    have HVV := Lib.hid hV
    have HV := Lib.hid (show Dgc V D from by rw [← hV]; exact bt_dgc D)
    rw [hV]
    clear hV
    have HC9 := Lib.hid (show AftG w gx VY w9 from ⟨HX1.out.trans (HX6.out.trans HX9.out), WBlk.ext' HG6.out HX9.out⟩)
    go_wp2
    refine ⟨fun _ => HC9.out, ?_⟩
    have HR9 := Lib.hid (WBlk.ext' HR1.out (Ext.trans HX6.out HX9.out))
    have HI9 := Lib.hid HV.out.info
    have HO9 := Lib.hid HV.out.one
    have HZ9 := Lib.hid (show Z.size = V.size from by rw [HV.out.1]; exact HZ32.out ())
    have HG9 := Lib.hid (setRow_heap _ (g0 + 1) _ V _ _ HR9.out)
    have HXF := Lib.hid ((HX1.out.trans (HX6.out.trans HX9.out)).setRow (g := g0 + 1) (by rw [HW0.out]; omega) V)
    refine plan_one rfl (fun K hK => ?_)
    go_wp2_with (with_reducible refine wpList_store_all rfl 30 (.tmp 8) (.tmp 49) rfl (g0 + 1) Z V rfl rfl HR9.out HI9.out HZ9.out HO9.out ?_)
    refine ⟨fun _ => (show AftG w gx VY _ from ⟨HXF.out, setRow_far (by have := HGB.out; have := HZ1.out; omega) HC9.out.2⟩), ?_⟩
    refine plan_one rfl (fun K hK => ?_)
    go_wp2
    refine ⟨fun h => absurd h (by decide), ?_⟩
    unfold wpPlan
    go_wp2
    exact ⟨rfl, .tuple #[.agg V, .bool ok], results_rt Tryd.results33 _ _ (g0 + 1) 30 V (0, 0) rfl HG9.out HI9.out, D, ok, by rw [← HVV.out]; rfl, HDL.out.1, HDL.out.2, HXF.out, by rw [HMX.out, HMY.out, ← HDE.out]; cases ok <;> rfl⟩
end Go.Proofs.YthbfodmpoheahaaDoor

/-
  What the document's own lift of layer 11 does, to the right. Conditions: under what its Of is to do; at most 2^20 texts, a place below them.
-/
namespace Go.Proofs.YthbfodmpoheahaaDoor
open Go.RowKit
open Pol (co Sm)

set_option maxHeartbeats 1600000 in
set_option maxRecDepth 100000 in
theorem ref11_lift_hi (R : RefOf) (n i k : Nat) (d : List Nat) (ps : List (List Nat)) (x : List Nat) (A : Option Addr) (c : Nat) (w : World) (h2 : 2 ≤ n) (hin : i < n) (hnb : n ≤ 1048576) (hd : d.length = 32) (hsm : Sm d) (hr : DRd w A (ps ++ [x])) (hc : ps.length + 1 ≤ c) (hpl : ps.length + 1 ≤ 1048576)
    (hk : spl n = k) (hik : ¬ i < k)
    (ih : ∀ W, Ext w W → DRd W A ps → Calls Tryd.prog 33 #[dgv d, .int .i64 ((i - k : Nat) : Int), .int .i64 ((n - k : Nat) : Int), .slice A ps.length c] W (LiftS d (n - k) (i - k) ps W)) :
    Calls Tryd.prog 33 #[dgv d, .int .i64 (i : Int), .int .i64 (n : Int), .slice A (ps.length + 1) c] w (LiftS d n i (ps ++ [x]) w) := by
  obtain ⟨g0, hg0⟩ : ∃ g, w.heap.size = g := ⟨_, rfl⟩
  have HW0 := Lib.hid hg0
  have hz := zero_digest.1
  have HZ32 := Lib.hid (fun (_ : Unit) => show (bt 32 fun _ => 0).size = 32 from bt_size _ _)
  have HZV := Lib.hid (fun (_ : Unit) => show (bt 32 fun _ => 0) = bt 32 (co (List.replicate 32 0)) from bt_zero)
  obtain ⟨Z, hZ⟩ : ∃ Z, (bt 32 fun _ => 0) = Z := ⟨_, rfl⟩
  rw [hZ] at hz HZ32 HZV
  have HZZ := Lib.hid hZ
  have HD := Lib.hid (And.intro hd hsm)
  have HVD := Lib.hid (bt_dgc d)
  obtain ⟨VD, hVD⟩ : ∃ V, bt 32 (co d) = V := ⟨_, rfl⟩
  have HVE := Lib.hid hVD
  rw [hVD] at HVD
  have hx1 := ((Ext.refl w).alloc (.cells VD 30)).alloc (.cells Z 30)
  have hs1 : ((w.alloc (.cells VD 30)).alloc (.cells Z 30)).heap.size = g0 + 2 := by rw [← hg0]; simp
  have hr0 : ((w.alloc (.cells VD 30)).alloc (.cells Z 30)).heap[g0]? = some (.cells VD 30 (0, 0)) := by
    rw [heap_alloc_old _ _ (by simp; omega), ← hg0]; exact heap_alloc_new w _
  have hr1 : ((w.alloc (.cells VD 30)).alloc (.cells Z 30)).heap[g0 + 1]? = some (.cells Z 30 (0, 0)) := by
    have h := heap_alloc_new (w.alloc (.cells VD 30)) (.cells Z 30)
    rw [show (w.alloc (.cells VD 30)).heap.size = g0 + 1 from by rw [← hg0]; simp] at h
    exact h
  obtain ⟨w1, hw1⟩ : ∃ q, (w.alloc (.cells VD 30)).alloc (.cells Z 30) = q := ⟨_, rfl⟩
  rw [hw1] at hx1 hs1 hr0 hr1
  have HW1 := Lib.hid hw1
  have HX1 := Lib.hid hx1
  have HZ1 := Lib.hid hs1
  have HR0 := Lib.hid hr0
  have HR1 := Lib.hid hr1
  have HIV := Lib.hid HVD.out.info
  have HOV := Lib.hid HVD.out.one
  have HZV9 := Lib.hid (show Z.size = VD.size from by rw [HVD.out.1]; exact HZ32.out ())
  have HLV := Lib.hid (fun (W : World) (h : AfterH w1 W) => show (Instr.loadAt 30 (.pointer (some ⟨g0, 0, none⟩))).run Tryd.prog W = .ok (.agg VD) W from by
    have h2 := load_blk W g0 d 30 (0, 0) (by rw [HVE.out]; exact WBlk.ext' HR0.out h)
    unfold dgv at h2
    rw [HVE.out] at h2
    exact h2)
  unfold dgv
  rw [hVD]
  clear hx1 hs1 hr0 hr1 hw1 hVD
  have HR := Lib.hid hr
  have HPL := Lib.hid (show (ps ++ [x]).length = ps.length + 1 from by simp)
  have hk1 := spl_lt h2
  have hk0 := spl_pos n
  have HSP := Lib.hid (fun W => ref11_split n W (by omega))
  have HXX := Lib.hid (show x.length = 32 ∧ Sm x from by
    have h := HR.out.one ps.length (by rw [HPL.out]; omega)
    rw [show ro (ps ++ [x]) ps.length = x from by unfold ro; simp] at h
    exact h)
  have HRQ := Lib.hid (show DRd w A ps from by
    have h := HR.out.take ps.length
    rwa [List.take_left] at h)
  obtain ⟨b, o, rfl, hcell⟩ := HR.out.addr (by rw [HPL.out]; omega)
  have HCL := Lib.hid (show ∀ j, j < 32 → w.cell? ⟨b, o + ps.length * 32 + j, none⟩ = some (.int .u8 ((co x j : Nat) : Int)) from fun j hj => by
    have h := hcell ps.length (by rw [HPL.out]; omega) j hj
    rw [show ro (ps ++ [x]) ps.length = x from by unfold ro; simp] at h
    exact h)
  have HMX := Lib.hid (mlift_hi sha d i ps x h2 (by rw [hk]; exact hik))
  rw [hk] at hk1 hk0 HSP HMX
  have HIH := Lib.hid (fun W (h : Ext w W) => ih W h (HRQ.out.ext h))
  obtain ⟨p, hp⟩ : ∃ p, ps.length = p := ⟨_, rfl⟩
  rw [hp] at HCL hc hpl HIH ⊢
  obtain ⟨j, hj⟩ : ∃ j, i - k = j := ⟨_, rfl⟩
  obtain ⟨r, hrr⟩ : ∃ r, n - k = r := ⟨_, rfl⟩
  have d3 : decide ((i : Int) < (k : Int)) = false := decide_eq_false (by omega)
  have n5 : ¬ (i : Int) < (k : Int) := by omega
  have e4 : (i : Int) - (k : Int) = (j : Int) := by omega
  have e6 : (n : Int) - (k : Int) = (r : Int) := by omega
  have hjb : j ≤ 1048577 := by omega
  have hrb : r ≤ 1048577 := by omega
  have HE5 := Lib.hid (i64_nat j hjb)
  have HE7 := Lib.hid (i64_nat r hrb)
  rw [hj, hrr] at HMX HIH
  clear hj hrr hin hik hjb hrb
  have ht := fun W => run_to_dig (some ⟨b, o, none⟩) (p + 1) c p (by omega) W
  have HLX := Lib.hid (fun (W : World) (h : Ext w W) => show (Instr.loadAt 30 (.pointer (some ⟨b, o + p * 32, none⟩))).run Tryd.prog W = .ok (dgv x) W from run_load_dig W b (o + p * 32) x (fun j hj => by rw [(h.below.cell (p := ⟨b, o + p * 32 + j, none⟩) (block_lt_of_cell (HCL.out j hj)))]; exact HCL.out j hj))
  have d1 : decide ((n : Int) = 1) = false := decide_eq_false (by omega)
  have n1 : ¬ (n : Int) = 1 := by omega
  have n2 : ¬ n = 1 := by omega
  have d2 : decide (((p + 1 : Nat) : Int) = 0) = false := decide_eq_false (by omega)
  have n3 : ¬ ((p + 1 : Nat) : Int) = 0 := by omega
  have n4 : ¬ (p : Int) + 1 = 0 := by omega
  have hp0 : (0 : Int) ≤ (p : Int) := by omega
  have hp1 : (p : Int) < ((p + 1 : Nat) : Int) := by omega
  have hp2 : (p : Int) < (p : Int) + 1 := by omega
  have hp3 : p < p + 1 := by omega
  have HC3 := Lib.hid (fun W (h : Ext w W) y (hy : y.length = 32) (hsy : Sm y) => ref11_both R x y W HXX.out.1 hy HXX.out.2 hsy)
  have hpb : p ≤ 1048577 := Nat.le_trans (Nat.le_of_succ_le hpl) (by decide)
  have e3 := w64_nat p hpb
  have e1 := w64_pred p hpb
  have e2 := w64_prd p hpb
  unfold LiftS at HIH
  unfold dgv at HIH HLX HC3
  rw [HVE.out] at HIH
  obtain ⟨VX, hVX⟩ : ∃ V, bt 32 (co x) = V := ⟨_, rfl⟩
  have HVX := Lib.hid hVX
  rw [hVX] at HLX HC3
  clear hpb hcell hk hp hnb hd hsm hZ hpl hc h2 ih hk0 hk1 hVX hr
  go_enter Tryd.func33, Tryd.ntmps33
  go_wp2_with fail
  rw [HW1.out]
  refine (HSP.out _).mono ?_
  rintro e w2 ⟨rfl, q, rfl⟩
  have HX2 := Lib.hid (show AfterH w1 (w1.drewN q) from (Ext.refl w1).drewN q)
  generalize w1.drewN q = w2 at HX2 ⊢
  obtain ⟨u, hu⟩ : ∃ u, w2.drew = u := ⟨_, rfl⟩
  have HXU := Lib.hid (show AfterH w1 u from by rw [← hu]; exact Ext.drew HX2.out)
  go_wp2_with (refine wp_region_plan (AfterH w1) [0, 1, 2, 3, 4, 5, 6, 7, 8, 9, 10, 11, 12, 13, 14, 15] (.yes 0 (.yes 1 (.yes 2 (.yes 3 (.yes 4 (.yes 5 (.yes 6 (.yes 7 (.yes 8 (.yes 9 (.two 10 (.yes 11 (.yes 12 (.yes 13 (.one 14 (.one 15 (.one 16 .done)))))) 14 (.one 10 (.yes 11 (.yes 12 (.yes 13 (.one 15 (.one 16 .done))))))))))))))))) (by kernel_rfl) (fun c a a' w e h => ⟨e ▸ h.1, h.2⟩) (by kernel_rfl) (by rw [hu]; exact HXU.out) ?_)
  rw [hu]
  clear hu
  have e5 := HE5.out
  have e7 := HE7.out
  refine plan_load rfl 30 (.tmp 4) rfl (.agg VD) (by rfl) (fun W hW => HLV.out W hW) ?_
  refine plan_yes rfl (fun K hK => ?_); go_simp; refine ⟨_, fun _ _ => rfl, hK _ ?_⟩; clear hK K
  refine plan_yes rfl (fun K hK => ?_); go_simp; refine ⟨_, fun _ _ => rfl, hK _ ?_⟩; clear hK K
  refine plan_yes rfl (fun K hK => ?_); go_simp; refine ⟨_, fun _ _ => rfl, hK _ ?_⟩; clear hK K
  refine plan_yes rfl (fun K hK => ?_); go_simp; refine ⟨_, fun _ _ => rfl, hK _ ?_⟩; clear hK K
  refine plan_yes rfl (fun K hK => ?_); go_simp; refine ⟨_, fun _ _ => rfl, hK _ ?_⟩; clear hK K
  refine plan_yes rfl (fun K hK => ?_); go_simp; refine ⟨_, fun _ _ => rfl, hK _ ?_⟩; clear hK K
  refine plan_yes rfl (fun K hK => ?_); go_simp; refine ⟨_, fun _ _ => rfl, hK _ ?_⟩; clear hK K
  refine plan_yes rfl (fun K hK => ?_); go_simp; refine ⟨_, fun _ _ => rfl, hK _ ?_⟩; clear hK K
  refine plan_yes rfl (fun K hK => ?_); go_simp; refine ⟨_, fun _ _ => rfl, hK _ ?_⟩; clear hK K
  refine plan_two rfl rfl (fun K hK => ?_) (fun K hK => ?_)
  · skip
    go_wp2_with fail
    refine (HIH.out _ (HX1.out.trans HXU.out)).mono ?_
    rintro e v4 ⟨y, ok, rfl, hy, hsy, hx4, hml⟩
    have HX4 := Lib.hid (show AfterH w1 v4 from Ext.trans HXU.out hx4)
    have HY := Lib.hid (And.intro hy hsy)
    have HMY := Lib.hid hml
    clear hy hsy hx4 hml
    obtain ⟨VY, hVY⟩ : ∃ V, bt 32 (co y) = V := ⟨_, rfl⟩
    have HVY := Lib.hid (show Dgc VY y from by rw [← hVY]; exact bt_dgc y)
    have HVYE := Lib.hid hVY
    rw [hVY]
    clear hVY
    go_wp2
    refine ⟨fun _ => HX4.out, ?_⟩
    refine plan_yes rfl (fun K hK => ?_); go_simp; refine ⟨_, fun _ _ => rfl, hK _ ?_⟩; clear hK K
    refine plan_yes rfl (fun K hK => ?_); go_simp; refine ⟨_, fun _ _ => rfl, hK _ ?_⟩; clear hK K
    refine plan_yes rfl (fun K hK => ?_); go_simp; refine ⟨_, fun _ _ => rfl, hK _ ?_⟩; clear hK K
    refine plan_one rfl (fun K hK => ?_)
    obtain ⟨gx, hgx⟩ : ∃ g, (v4).heap.size = g := ⟨_, rfl⟩
    have HGX := Lib.hid (show ((v4).alloc (.cells Z 30)).heap[gx]? = some (.cells Z 30 (0, 0)) from by rw [← hgx]; exact heap_alloc_new _ _)
    have HX5 := Lib.hid (show AfterH w1 ((v4).alloc (.cells Z 30)) from Ext.alloc HX4.out _)
    have HGB := Lib.hid (show w1.heap.size ≤ gx from by rw [← hgx]; exact Ext.size HX4.out)
    go_wp2
    refine ⟨fun _ => HX5.out, ?_⟩
    generalize (v4).alloc (.cells Z 30) = v5 at HX5 HGX ⊢
    clear hgx
    have HIY := Lib.hid HVY.out.info
    have HOY := Lib.hid HVY.out.one
    have HZY := Lib.hid (show Z.size = VY.size from by rw [HVY.out.1]; exact HZ32.out ())
    have HX6 := Lib.hid (show Ext w1 (v5.setRow gx VY) from Ext.setRow HX5.out HGB.out VY)
    have HG6 := Lib.hid (setRow_heap _ gx _ VY _ _ HGX.out)
    refine plan_one rfl (fun K hK => ?_)
    go_wp2_with (with_reducible refine wpList_store_all rfl 30 (.tmp 14) (.tmp 63) rfl gx Z VY rfl rfl HGX.out HIY.out HZY.out HOY.out ?_)
    refine ⟨fun _ => HX6.out, ?_⟩
    refine plan_one rfl (fun K hK => ?_)
    go_wp2
    refine ⟨fun h => absurd h (by decide), ?_⟩
    unfold wpPlan
    generalize v5.setRow gx VY = v6 at HX6 HG6 ⊢
    go_wp2
    obtain ⟨u6, hu6⟩ : ∃ u, v6.drew = u := ⟨_, rfl⟩
    have HXU6 := Lib.hid (show AfterH v6 u6 from by rw [← hu6]; exact (Ext.refl v6).drew)
    have LY := Lib.hid (fun (W : World) (h : AftG w gx VY W) => show (Instr.loadAt 30 (.pointer (some ⟨gx, 0, none⟩))).run Tryd.prog W = .ok (.agg VY) W from by
      have h2 := load_blk W gx y 30 (0, 0) (by rw [HVYE.out]; exact h.2)
      unfold dgv at h2
      rw [HVYE.out] at h2
      exact h2)
    have HB := Lib.hid (fun (W : World) (h : AfterH v6 W) => HC3.out W (HX1.out.trans (HX6.out.trans h)) y HY.out.1 HY.out.2)
    rw [HVYE.out] at HB
    refine wp_region_plan (AftG w gx VY) [0, 1, 2, 3, 4, 5, 6, 7] (.yes 0 (.yes 1 (.yes 2 (.yes 3 (.yes 4 (.yes 6 (.one 5 (.one 7 (.one 8 .done))))))))) (by kernel_rfl) (fun c a a' w e h => ⟨e ▸ h.1, h.2⟩) (by kernel_rfl) (by rw [hu6]; exact ⟨HX1.out.trans (HX6.out.trans HXU6.out), WBlk.ext' HG6.out HXU6.out⟩) ?_
    rw [hu6]
    clear hu6
    refine plan_yes rfl (fun K hK => ?_); go_simp; refine ⟨_, fun _ _ => rfl, hK _ ?_⟩; clear hK K
    refine plan_yes rfl (fun K hK => ?_); go_simp; refine ⟨_, fun _ _ => rfl, hK _ ?_⟩; clear hK K
    refine plan_yes rfl (fun K hK => ?_); go_simp; refine ⟨_, fun _ _ => rfl, hK _ ?_⟩; clear hK K
    refine plan_load rfl 30 (.tmp 67) rfl (.agg VX) (by rfl) (fun W hW => HLX.out W hW.1) ?_
    refine plan_load rfl 30 (.tmp 14) rfl (.agg VY) (by rfl) (fun W hW => LY.out W hW) ?_
    refine plan_yes rfl (fun K hK => ?_); go_simp; refine ⟨_, fun _ _ => rfl, hK _ ?_⟩; clear hK K
    refine plan_one rfl (fun K hK => ?_)
    go_wp2_with fail
    refine (HB.out _ HXU6.out).mono ?_
    rintro e w9 ⟨rfl, hx9⟩
    have HX9 := Lib.hid (show AfterH v6 w9 from Ext.trans HXU6.out hx9)
    clear hx9
    obtain ⟨D, hD⟩ : ∃ D, nd sha x y = D := ⟨_, rfl⟩
    have HDL := Lib.hid (show D.length = 32 ∧ Sm D from by rw [← hD]; exact ⟨sha_len _, sha_sm _⟩)
    have HDE := Lib.hid hD
    rw [hD]
    clear hD
    obtain ⟨V, hV⟩ : ∃ V, bt 32 (co D) = V := ⟨_, rfl⟩
    have HVV := Lib.hid hV
    have HV := Lib.hid (show Dgc V D from by rw [← hV]; exact bt_dgc D)
    rw [hV]
    clear hV
    have HC9 := Lib.hid (show AftG w gx VY w9 from ⟨HX1.out.trans (HX6.out.trans HX9.out), WBlk.ext' HG6.out HX9.out⟩)
    go_wp2
    refine ⟨fun _ => HC9.out, ?_⟩
    have HR9 := Lib.hid (WBlk.ext' HR1.out (Ext.trans HX6.out HX9.out))
    have HI9 := Lib.hid HV.out.info
    have HO9 := Lib.hid HV.out.one
    have HZ9 := Lib.hid (show Z.size = V.size from by rw [HV.out.1]; exact HZ32.out ())
    have HG9 := Lib.hid (setRow_heap _ (g0 + 1) _ V _ _ HR9.out)
    have HXF := Lib.hid ((HX1.out.trans (HX6.out.trans HX9.out)).setRow (g := g0 + 1) (by rw [HW0.out]; omega) V)
    refine plan_one rfl (fun K hK => ?_)
    go_wp2_with (with_reducible refine wpList_store_all rfl 30 (.tmp 8) (.tmp 70) rfl (g0 + 1) Z V rfl rfl HR9.out HI9.out HZ9.out HO9.out ?_)
    refine ⟨fun _ => (show AftG w gx VY _ from ⟨HXF.out, setRow_far (by have := HGB.out; have := HZ1.out; omega) HC9.out.2⟩), ?_⟩
    refine plan_one rfl (fun K hK => ?_)
    go_wp2
    refine ⟨fun h => absurd h (by decide), ?_⟩
    unfold wpPlan
    go_wp2
    exact ⟨rfl, .tuple #[.agg V, .bool ok], results_rt Tryd.results33 _ _ (g0 + 1) 30 V (0, 0) rfl HG9.out HI9.out, D, ok, by rw [← HVV.out]; rfl, HDL.out.1, HDL.out.2, HXF.out, by rw [HMX.out, HMY.out, ← HDE.out]; cases ok <;> rfl⟩
  · skip
    obtain ⟨gx, hgx⟩ : ∃ g, (u).heap.size = g := ⟨_, rfl⟩
    have HGX := Lib.hid (show ((u).alloc (.cells Z 30)).heap[gx]? = some (.cells Z 30 (0, 0)) from by rw [← hgx]; exact heap_alloc_new _ _)
    have HX5 := Lib.hid (show AfterH w1 ((u).alloc (.cells Z 30)) from Ext.alloc HXU.out _)
    have HGB := Lib.hid (show w1.heap.size ≤ gx from by rw [← hgx]; exact Ext.size HXU.out)
    go_wp2
    refine ⟨fun _ => HX5.out, ?_⟩
    generalize (u).alloc (.cells Z 30) = v5 at HX5 HGX ⊢
    clear hgx
    refine plan_one rfl (fun K hK => ?_)
    go_wp2_with fail
    refine (HIH.out _ (HX1.out.trans HX5.out)).mono ?_
    rintro e v4 ⟨y, ok, rfl, hy, hsy, hx4, hml⟩
    have HX4 := Lib.hid (show AfterH w1 v4 from Ext.trans HX5.out hx4)
    have HY := Lib.hid (And.intro hy hsy)
    have HMY := Lib.hid hml
    have HGX4 := Lib.hid (WBlk.ext' HGX.out hx4)
    clear hy hsy hx4 hml
    obtain ⟨VY, hVY⟩ : ∃ V, bt 32 (co y) = V := ⟨_, rfl⟩
    have HVY := Lib.hid (show Dgc VY y from by rw [← hVY]; exact bt_dgc y)
    have HVYE := Lib.hid hVY
    rw [hVY]
    clear hVY
    go_wp2
    refine ⟨fun _ => HX4.out, ?_⟩
    refine plan_yes rfl (fun K hK => ?_); go_simp; refine ⟨_, fun _ _ => rfl, hK _ ?_⟩; clear hK K
    refine plan_yes rfl (fun K hK => ?_); go_simp; refine ⟨_, fun _ _ => rfl, hK _ ?_⟩; clear hK K
    refine plan_yes rfl (fun K hK => ?_); go_simp; refine ⟨_, fun _ _ => rfl, hK _ ?_⟩; clear hK K
    have HIY := Lib.hid HVY.out.info
    have HOY := Lib.hid HVY.out.one
    have HZY := Lib.hid (show Z.size = VY.size from by rw [HVY.out.1]; exact HZ32.out ())
    have HX6 := Lib.hid (show Ext w1 (v4.setRow gx VY) from Ext.setRow HX4.out HGB.out VY)
    have HG6 := Lib.hid (setRow_heap _ gx _ VY _ _ HGX4.out)
    refine plan_one rfl (fun K hK => ?_)
    go_wp2_with (with_reducible refine wpList_store_all rfl 30 (.tmp 14) (.tmp 63) rfl gx Z VY rfl rfl HGX4.out HIY.out HZY.out HOY.out ?_)
    refine ⟨fun _ => HX6.out, ?_⟩
    refine plan_one rfl (fun K hK => ?_)
    go_wp2
    refine ⟨fun h => absurd h (by decide), ?_⟩
    unfold wpPlan
    generalize v4.setRow gx VY = v6 at HX6 HG6 ⊢
    go_wp2
    obtain ⟨u6, hu6⟩ : ∃ u, v6.drew = u := ⟨_, rfl⟩
    have HXU6 := Lib.hid (show AfterH v6 u6 from by rw [← hu6]; exact (Ext.refl v6).drew)
    have LY := Lib.hid (fun (W : World) (h : AftG w gx VY W) => show (Instr.loadAt 30 (.pointer (some ⟨gx, 0, none⟩))).run Tryd.prog W = .ok (.agg VY) W from by
      have h2 := load_blk W gx y 30 (0, 0) (by rw [HVYE.out]; exact h.2)
      unfold dgv at h2
      rw [HVYE.out] at h2
      exact h2)
    have HB := Lib.hid (fun (W : World) (h : AfterH v6 W) => HC3.out W (HX1.out.trans (HX6.out.trans h)) y HY.out.1 HY.out.2)
    rw [HVYE.out] at HB
    refine wp_region_plan (AftG w gx VY) [0, 1, 2, 3, 4, 5, 6, 7] (.yes 0 (.yes 1 (.yes 2 (.yes 3 (.yes 4 (.yes 6 (.one 5 (.one 7 (.one 8 .done))))))))) (by kernel_rfl) (fun c a a' w e h => ⟨e ▸ h.1, h.2⟩) (by kernel_rfl) (by rw [hu6]; exact ⟨HX1.out.trans (HX6.out.trans HXU6.out), WBlk.ext' HG6.out HXU6.out⟩) ?_
    rw [hu6]
    clear hu6
    refine plan_yes rfl (fun K hK => ?_); go_simp; refine ⟨_, fun _ _ => rfl, hK _ ?_⟩; clear hK K
    refine plan_yes rfl (fun K hK => ?_); go_simp; refine ⟨_, fun _ _ => rfl, hK _ ?_⟩; clear hK K
    refine plan_yes rfl (fun K hK => ?_); go_simp; refine ⟨_, fun _ _ => rfl, hK _ ?_⟩; clear hK K
    refine plan_load rfl 30 (.tmp 67) rfl (.agg VX) (by rfl) (fun W hW => HLX.out W hW.1) ?_
    refine plan_load rfl 30 (.tmp 14) rfl (.agg VY) (by rfl) (fun W hW => LY.out W hW) ?_
    refine plan_yes rfl (fun K hK => ?_); go_simp; refine ⟨_, fun _ _ => rfl, hK _ ?_⟩; clear hK K
    refine plan_one rfl (fun K hK => ?_)
    go_wp2_with fail
    refine (HB.out _ HXU6.out).mono ?_
    rintro e w9 ⟨rfl, hx9⟩
    have HX9 := Lib.hid (show AfterH v6 w9 from Ext.trans HXU6.out hx9)
    clear hx9
    obtain ⟨D, hD⟩ : ∃ D, nd sha x y = D := ⟨_, rfl⟩
    have HDL := Lib.hid (show D.length = 32 ∧ Sm D from by rw [← hD]; exact ⟨sha_len _, sha_sm _⟩)
    have HDE := Lib.hid hD
    rw [hD]
    clear hD
    obtain ⟨V, hV⟩ : ∃ V, bt 32 (co D) = V := ⟨_, rfl⟩
    have HVV := Lib.hid hV
    have HV := Lib.hid (show Dgc V D from by rw [← hV]; exact bt_dgc D)
    rw [hV]
    clear hV
    have HC9 := Lib.hid (show AftG w gx VY w9 from ⟨HX1.out.trans (HX6.out.trans HX9.out), WBlk.ext' HG6.out HX9.out⟩)
    go_wp2
    refine ⟨fun _ => HC9.out, ?_⟩
    have HR9 := Lib.hid (WBlk.ext' HR1.out (Ext.trans HX6.out HX9.out))
    have HI9 := Lib.hid HV.out.info
    have HO9 := Lib.hid HV.out.one
    have HZ9 := Lib.hid (show Z.size = V.size from by rw [HV.out.1]; exact HZ32.out ())
    have HG9 := Lib.hid (setRow_heap _ (g0 + 1) _ V _ _ HR9.out)
    have HXF := Lib.hid ((HX1.out.trans (HX6.out.trans HX9.out)).setRow (g := g0 + 1) (by rw [HW0.out]; omega) V)
    refine plan_one rfl (fun K hK => ?_)
    go_wp2_with (with_reducible refine wpList_store_all rfl 30 (.tmp 8) (.tmp 70) rfl (g0 + 1) Z V rfl rfl HR9.out HI9.out HZ9.out HO9.out ?_)
    refine ⟨fun _ => (show AftG w gx VY _ from ⟨HXF.out, setRow_far (by have := HGB.out; have := HZ1.out; omega) HC9.out.2⟩), ?_⟩
    refine plan_one rfl (fun K hK => ?_)
    go_wp2
    refine ⟨fun h => absurd h (by decide), ?_⟩
    unfold wpPlan
    go_wp2
    exact ⟨rfl, .tuple #[.agg V, .bool ok], results_rt Tryd.results33 _ _ (g0 + 1) 30 V (0, 0) rfl HG9.out HI9.out, D, ok, by rw [← HVV.out]; rfl, HDL.out.1, HDL.out.2, HXF.out, by rw [HMX.out, HMY.out, ← HDE.out]; cases ok <;> rfl⟩
end Go.Proofs.YthbfodmpoheahaaDoor

/-
  What the document's own lift of layer 11 does. Conditions: under what its Of is to do; at most 2^20 texts, a place below them.
-/
namespace Go.Proofs.YthbfodmpoheahaaDoor
open Go.RowKit
open Pol (co Sm)

theorem ref11_lift (R : RefOf) (m : Nat) : ∀ (n i : Nat) (d : List Nat) (ps : List (List Nat)) (A : Option Addr) (c : Nat) (w : World), n ≤ m → 1 ≤ n → i < n → n ≤ 1048576 → d.length = 32 → Sm d → DRd w A ps → ps.length ≤ c → ps.length ≤ 1048576 →
    Calls Tryd.prog 33 #[dgv d, .int .i64 (i : Int), .int .i64 (n : Int), .slice A ps.length c] w (LiftS d n i ps w) := by
  induction m with
  | zero => intro n i d ps A c w hm h1; omega
  | succ m ih =>
    intro n i d ps A c w hm h1 hin hnb hd hsm hr hc hpl
    by_cases h2 : 2 ≤ n
    · have hk1 := spl_lt h2
      have hk0 := spl_pos n
      rcases List.eq_nil_or_concat ps with rfl | ⟨qs, x, rfl⟩
      · exact ref11_lift_nil n i d A c w h2 hd hsm
      · rw [List.concat_eq_append] at hr hc hpl ⊢
        rw [List.length_append, List.length_singleton] at hc hpl ⊢
        by_cases hik : i < spl n
        · exact ref11_lift_lo R n i (spl n) d qs x A c w h2 hnb hd hsm hr hc hpl rfl hik (fun W h hq => ih (spl n) i d qs A c W (by omega) (by omega) hik (by omega) hd hsm hq (by omega) (by omega))
        · exact ref11_lift_hi R n i (spl n) d qs x A c w h2 hin hnb hd hsm hr hc hpl rfl hik (fun W h hq => ih (n - spl n) (i - spl n) d qs A c W (by omega) (by omega) (by omega) (by omega) hd hsm hq (by omega) (by omega))
    · obtain rfl : n = 1 := by omega
      exact ref11_lift_one i d ps A c w hd hsm
end Go.Proofs.YthbfodmpoheahaaDoor

/-
  What the document's own Shows of layer 11 do. Conditions: under what its Of is to do; the sizes named.
-/
namespace Go.Proofs.YthbfodmpoheahaaDoor
open Go.RowKit
open Pol (co Sm)

set_option maxHeartbeats 1600000 in
set_option maxRecDepth 100000 in
theorem ref11_shows_bad (d t : List Nat) (i n : Int) (ps : List (List Nat)) (A B : Option Addr) (c cb : Nat) (w : World) (h : i < 0 ∨ n ≤ i ∨ 1048576 < n) :
    Calls Tryd.prog 17 #[dgv d, .slice A t.length c, .int .i64 i, .int .i64 n, .slice B ps.length cb] w (Tells (.bool (shw d t i n ps)) w) := by
  have HV := Lib.hid (shw_bad (d := d) (t := t) (ps := ps) h)
  rw [HV.out]
  unfold dgv
  obtain ⟨VD, hVD⟩ : ∃ V, bt 32 (co d) = V := ⟨_, rfl⟩
  have HX := Lib.hid (show Ext w (w.alloc (.cells VD 30)) from (Ext.refl w).alloc _)
  rw [hVD]
  clear hVD
  by_cases h1 : i < 0
  · have d1 : decide (i < 0) = true := decide_eq_true h1
    clear h
    go_enter Tryd.func17, Tryd.ntmps17
    go_wp2
    go_ret
    exact ⟨rfl, HX.out⟩
  · have d1 : decide (i < 0) = false := decide_eq_false h1
    by_cases h2 : n ≤ i
    · have d2 : decide (i ≥ n) = true := decide_eq_true h2
      clear h
      go_enter Tryd.func17, Tryd.ntmps17
      go_wp2
      go_ret
      exact ⟨rfl, HX.out⟩
    · have d2 : decide (i ≥ n) = false := decide_eq_false h2
      have h3 : n > 1048576 := by omega
      have d3 : decide (n > 1048576) = true := decide_eq_true h3
      clear h
      go_enter Tryd.func17, Tryd.ntmps17
      go_wp2
      go_ret
      exact ⟨rfl, HX.out⟩
set_option maxHeartbeats 1600000 in
set_option maxRecDepth 100000 in
theorem ref11_shows_good (R : RefOf) (d t : List Nat) (i n : Nat) (ps : List (List Nat)) (A B : Option Addr) (c cb : Nat) (w : World) (hin : i < n) (hnb : n ≤ 1048576) (hd : d.length = 32) (hsd : Sm d) (hr : Rd w A t) (hl : t.length ≤ 65535) (hp : DRd w B ps) (hcb : ps.length ≤ cb) (hpb : ps.length ≤ 1048576) :
    Calls Tryd.prog 17 #[dgv d, .slice A t.length c, .int .i64 (i : Int), .int .i64 (n : Int), .slice B ps.length cb] w (Tells (.bool (shw d t (i : Int) (n : Int) ps)) w) := by
  have HR := Lib.hid hr
  have HP := Lib.hid hp
  have HLF := Lib.hid (fun W (hx : Ext w W) => show Calls Tryd.prog 29 #[.slice A t.length c] W (Tells (dgv (lf sha t)) W) from by
    have h := HR.out.ext hx
    exact ref11_leaf R t A c W h (by omega))
  have HLI := Lib.hid (fun W (hx : Ext w W) => show Calls Tryd.prog 33 #[dgv (lf sha t), .int .i64 (i : Int), .int .i64 (n : Int), .slice B ps.length cb] W (LiftS (lf sha t) n i ps W) from by
    have h := HP.out.ext hx
    exact ref11_lift R n n i (lf sha t) ps B cb W (Nat.le_refl _) (by omega) hin hnb (sha_len _) (sha_sm _) h hcb hpb)
  have HSN := Lib.hid (fun (h : mlift sha (lf sha t) n i ps = none) => shw_not (d := d) h)
  have HSI := Lib.hid (fun x (h : mlift sha (lf sha t) n i ps = some x) => shw_is (d := d) hin hnb h)
  have HD := Lib.hid (And.intro hd hsd)
  have HVD := Lib.hid (bt_dgc d)
  obtain ⟨g0, hg0⟩ : ∃ g, w.heap.size = g := ⟨_, rfl⟩
  have hz := zero_digest.1
  have HZ32 := Lib.hid (fun (_ : Unit) => show (bt 32 fun _ => 0).size = 32 from bt_size _ _)
  obtain ⟨Z, hZ⟩ : ∃ Z, (bt 32 fun _ => 0) = Z := ⟨_, rfl⟩
  rw [hZ] at hz HZ32
  unfold LiftS at HLI
  unfold dgv at HLF HLI ⊢
  obtain ⟨VD, hVD⟩ : ∃ V, bt 32 (co d) = V := ⟨_, rfl⟩
  obtain ⟨VL, hVL⟩ : ∃ V, bt 32 (co (lf sha t)) = V := ⟨_, rfl⟩
  obtain ⟨T, hT⟩ : ∃ T, t.length = T := ⟨_, rfl⟩
  obtain ⟨p, hpp⟩ : ∃ p, ps.length = p := ⟨_, rfl⟩
  rw [hVD] at HVD ⊢
  rw [hVL] at HLF HLI
  rw [hT] at HLF ⊢
  rw [hpp] at HLI ⊢
  obtain ⟨w1, hw1⟩ : ∃ q, w.alloc (.cells VD 30) = q := ⟨_, rfl⟩
  have HW1 := Lib.hid hw1
  have HX1 := Lib.hid (show Ext w w1 from by rw [← hw1]; exact (Ext.refl w).alloc _)
  have HR0 := Lib.hid (show w1.heap[g0]? = some (.cells VD 30 (0, 0)) from by rw [← hw1, ← hg0]; exact heap_alloc_new w _)
  have HID := Lib.hid HVD.out.info
  have d1 : decide ((i : Int) < 0) = false := decide_eq_false (by omega)
  have n1 : ¬ (i : Int) < 0 := by omega
  have d2 : decide ((i : Int) ≥ (n : Int)) = false := decide_eq_false (by omega)
  have n2 : ¬ (n : Int) ≤ (i : Int) := by omega
  have d3 : decide ((n : Int) > 1048576) = false := decide_eq_false (by omega)
  have n3 : ¬ 1048576 < (n : Int) := by omega
  clear hr hp hw1 hZ hT hpp hVD hVL hd hsd hl hpb hcb hin hnb
  go_enter Tryd.func17, Tryd.ntmps17
  go_wp2_with fail
  rw [HW1.out]
  refine (HLF.out _ HX1.out).mono ?_
  rintro e w2 ⟨rfl, hx2⟩
  have HX2 := Lib.hid hx2
  clear hx2
  go_wp2_with fail
  refine (HLI.out _ (HX1.out.trans HX2.out)).mono ?_
  rintro e w3 ⟨x, ok, rfl, hx, hsx, hx3, hml⟩
  have HX3 := Lib.hid (Ext.trans HX2.out hx3)
  have HXX := Lib.hid (And.intro hx hsx)
  have HML := Lib.hid hml
  have HVX := Lib.hid (bt_dgc x)
  obtain ⟨VX, hVX⟩ : ∃ V, bt 32 (co x) = V := ⟨_, rfl⟩
  rw [hVX] at HVX ⊢
  obtain ⟨gx, hgx⟩ : ∃ g, w3.heap.size = g := ⟨_, rfl⟩
  have HGX := Lib.hid (show (w3.alloc (.cells Z 30)).heap[gx]? = some (.cells Z 30 (0, 0)) from by rw [← hgx]; exact heap_alloc_new _ _)
  have HX4 := Lib.hid (show Ext w1 (w3.alloc (.cells Z 30)) from Ext.alloc HX3.out _)
  have HGB := Lib.hid (show w1.heap.size ≤ gx from by rw [← hgx]; exact Ext.size HX3.out)
  have HI := Lib.hid HVX.out.info
  have HO := Lib.hid HVX.out.one
  have HZZ := Lib.hid (show Z.size = VX.size from by rw [HVX.out.1]; exact HZ32.out ())
  have HX5 := Lib.hid (show Ext w1 ((w3.alloc (.cells Z 30)).setRow gx VX) from Ext.setRow HX4.out HGB.out VX)
  have HG5 := Lib.hid (setRow_heap _ gx _ VX _ _ HGX.out)
  have HG0 := Lib.hid (WBlk.ext' HR0.out HX5.out)
  have HEQ := Lib.hid (fun W => run_eq_dgc HVX.out HVD.out HXX.out.1 HD.out.1 HXX.out.2 HD.out.2 W)
  clear hx hsx hx3 hml hVX
  cases ok with
  | false =>
    have HS := Lib.hid (HSN.out HML.out)
    go_wp2_with (with_reducible refine wpList_store_all rfl 30 (.tmp 11) (.tmp 31) rfl gx Z VX rfl rfl HGX.out HI.out HZZ.out HO.out ?_)
    go_ret
    exact ⟨by rw [HS.out]; rfl, HX1.out.trans HX5.out⟩
  | true =>
    have HS := Lib.hid (HSI.out x HML.out)
    have he := HEQ.out
    go_wp2_with (first | (with_reducible refine wpList_store_all rfl 30 (.tmp 11) (.tmp 31) rfl gx Z VX rfl rfl HGX.out HI.out HZZ.out HO.out ?_) | (refine wpList_load_row_g (by rfl) 30 (.tmp 11) rfl gx rfl 30 VX (0, 0) _ HG5.out Tryd.underlying30 rfl HI.out ?_) | (refine wpList_load_row_g (by rfl) 30 (.tmp 5) rfl g0 rfl 30 VD (0, 0) _ HG0.out Tryd.underlying30 rfl HID.out ?_) | (refine wpIf_load_row (by rfl) 30 (.tmp 11) rfl gx rfl 30 VX (0, 0) _ HG5.out Tryd.underlying30 rfl HI.out ?_) | (refine wpIf_load_row (by rfl) 30 (.tmp 5) rfl g0 rfl 30 VD (0, 0) _ HG0.out Tryd.underlying30 rfl HID.out ?_))
    go_ret
    exact ⟨by rw [HS.out]; rfl, HX1.out.trans HX5.out⟩
end Go.Proofs.YthbfodmpoheahaaDoor

/-
  The law MerkleJudges, walked, under what the functions of layers 10 and 11 and the document's Of are to do. Conditions: none.
-/
namespace Go.Proofs.YthbfodmpoheahaaDoor
open Go.RowKit
open Pol (co Sm)

theorem ref11_shw (R : RefOf) (d t : List Nat) (i n : Int) (ps : List (List Nat)) (A B : Option Addr) (c cb : Nat) (w : World) (hd : d.length = 32) (hsd : Sm d) (hr : Rd w A t) (hl : t.length ≤ 65535) (hp : DRd w B ps) (hcb : ps.length ≤ cb) (hpb : ps.length ≤ 1048576) :
    Calls Tryd.prog 17 #[dgv d, .slice A t.length c, .int .i64 i, .int .i64 n, .slice B ps.length cb] w (Tells (.bool (shw d t i n ps)) w) := by
  by_cases h : i < 0 ∨ n ≤ i ∨ 1048576 < n
  · exact ref11_shows_bad d t i n ps A B c cb w h
  · obtain ⟨j, rfl⟩ : ∃ j : Nat, i = (j : Int) := ⟨i.toNat, by omega⟩
    obtain ⟨m, rfl⟩ : ∃ m : Nat, n = (m : Int) := ⟨n.toNat, by omega⟩
    exact ref11_shows_good R d t j m ps A B c cb w (by omega) (by omega) hd hsd hr hl hp hcb hpb
set_option maxHeartbeats 12800000 in
set_option maxRecDepth 100000 in
theorem judges11_walk (S : ShaOH) (C : MerkleSaid) (R : RefOf) (rows : List (List Nat)) (t : List Nat) (at' many : Int) (ps : List (List Nat)) (own : Bool) (A AT B : Option Addr) (c ct cb : Nat) (w : World) (hgl : GL w) (hr : RRd w A rows) (hc : rows.length ≤ c) (hl : rows.length ≤ maxLen)
    (ht : Rd w AT t) (htc : t.length ≤ ct) (hp : DRd w B ps) (hpc : ps.length ≤ cb) :
    Calls Tryd.prog 4 #[.slice A rows.length c, .slice AT t.length ct, .int .i64 at', .int .i64 many, .slice B ps.length cb, .bool own] w (Holds w) := by
  have HAW := Lib.hid (fun W (h : Ext w W) => awake11 S C W (hgl.ext h))
  have HFW := Lib.hid (fun W (h : Ext w W) => few11 rows A c W (hr.ext h) hl)
  have hls := fun (h : fewQ rows) => show ∀ i, i < rows.length → (ro rows i).length ≤ 32768 from fun i hi => Nat.le_trans (h.2 i hi) (by decide)
  have HRR := Lib.hid (fun (h : fewQ rows) W (hx : Ext w W) => ref11_root R 4096 rows A c W (by have := h.1; omega) (hr.ext hx) hc (by have := h.1; omega) (hls h))
  have HRP := Lib.hid (fun (h : fewQ rows) i (hi : i < rows.length) W (hx : Ext w W) => ref11_proof R 4096 rows i A c W (by have := h.1; omega) hi (hr.ext hx) hc (by have := h.1; omega) (hls h))
  have HDB := Lib.hid (fun (h : fewQ rows) i => dep_big rows i h.1)
  have HPD := Lib.hid hp
  have HPC := Lib.hid hpc
  have HSC0 := Lib.hid (fun (h20 : t.length ≤ 20) W qs D k (hx : Ext w W) (hq : DRd W D qs) (hk : qs.length ≤ k ∧ qs.length ≤ 64) => C.shows (mroot sha rows) t at' many qs AT D ct k W (hgl.ext hx) (mroot_32 _) (mroot_sm _) (ht.ext hx) htc (by omega) hq hk.1 (by omega))
  have HSR0 := Lib.hid (fun (h20 : t.length ≤ 20) W qs D k (hx : Ext w W) (hq : DRd W D qs) (hk : qs.length ≤ k ∧ qs.length ≤ 64) => ref11_shw R (mroot sha rows) t at' many qs AT D ct k W (mroot_32 _) (mroot_sm _) (ht.ext hx) (by omega) hq hk.1 (by omega))
  have HLB := Lib.hid (fun (W : World) (g : Nat) (h : W.heap[g]? = some (.cells (bt 32 (co (mroot sha rows))) 30 (0, 0))) => load_blk W g (mroot sha rows) 30 (0, 0) h)
  have HVR := Lib.hid (bt_dgc (mroot sha rows))
  have hz := zero_digest.1
  have HZ32 := Lib.hid (fun (_ : Unit) => show (bt 32 fun _ => 0).size = 32 from bt_size _ _)
  obtain ⟨Z, hZ⟩ : ∃ Z, (bt 32 fun _ => 0) = Z := ⟨_, rfl⟩
  rw [hZ] at hz HZ32
  obtain ⟨n, hn⟩ : ∃ n, rows.length = n := ⟨_, rfl⟩
  obtain ⟨T, hT⟩ : ∃ T, t.length = T := ⟨_, rfl⟩
  obtain ⟨p, hpp⟩ : ∃ p, ps.length = p := ⟨_, rfl⟩
  have HPP := Lib.hid hpp
  rw [hn] at HFW HRR HRP ⊢
  rw [hT] at HSC0 HSR0 ⊢
  rw [hpp] at HPC ⊢
  unfold DOwn at HRP
  unfold dgv at HRR HSC0 HSR0 HLB
  obtain ⟨VR, hVR⟩ : ∃ V, bt 32 (co (mroot sha rows)) = V := ⟨_, rfl⟩
  rw [hVR] at HRR HSC0 HSR0 HLB HVR
  clear hgl hr hc hl hls hn hVR hZ ht htc hp hpc hT hpp
  go_enter Tryd.func4, Tryd.ntmps4
  go_wp2_with fail
  refine (HAW.out _ (Ext.refl w)).mono ?_
  rintro e w1 ⟨rfl, hx1⟩
  have HX1 := Lib.hid hx1
  clear hx1
  go_wp2_with fail
  refine (HFW.out _ HX1.out).mono ?_
  rintro e w2 ⟨b, rfl, hq, rfl⟩
  cases b with
  | false =>
    clear hq
    go_wp2_with fail
    refine (HAW.out _ HX1.out).mono ?_
    rintro e w3 ⟨rfl, hx3⟩
    have HX3 := Lib.hid (HX1.out.trans hx3)
    clear hx3
    go_wp2
    go_ret
    exact ⟨rfl, HX3.out⟩
  | true =>
    have HF := Lib.hid (hq rfl)
    clear hq
    by_cases h20 : T ≤ 20
    · have d1 : decide ((T : Int) > 20) = false := decide_eq_false (by omega)
      have n1 : ¬ 20 < (T : Int) := by omega
      have HSC := Lib.hid (HSC0.out h20)
      have HSR := Lib.hid (HSR0.out h20)
      by_cases h24 : p ≤ 24
      · have d2 : decide ((p : Int) > 24) = false := decide_eq_false (by omega)
        have n2 : ¬ 24 < (p : Int) := by omega
        cases own with
        | false =>
          go_wp2_with fail
          refine (HRR.out HF.out _ HX1.out).mono ?_
          rintro e w3 ⟨rfl, hx3⟩
          have HX3 := Lib.hid (HX1.out.trans hx3)
          clear hx3
          obtain ⟨gx, hgx⟩ : ∃ g, w3.heap.size = g := ⟨_, rfl⟩
          have HGX := Lib.hid (show (w3.alloc (.cells Z 30)).heap[gx]? = some (.cells Z 30 (0, 0)) from by rw [← hgx]; exact heap_alloc_new _ _)
          have HI := Lib.hid HVR.out.info
          have HO := Lib.hid HVR.out.one
          have HZZ := Lib.hid (show Z.size = VR.size from by rw [HVR.out.1]; exact HZ32.out ())
          have HX4 := Lib.hid (show Ext w ((w3.alloc (.cells Z 30)).setRow gx VR) from HX3.out.trans (Ext.setRow ((Ext.refl w3).alloc _) (by rw [← hgx]; exact Nat.le_refl _) VR))
          have HG4 := Lib.hid (setRow_heap _ gx _ VR _ _ HGX.out)
          go_wp2_with (with_reducible refine wpList_store_all rfl 30 (.tmp 13) (.tmp 33) rfl gx Z VR rfl rfl HGX.out HI.out HZZ.out HO.out ?_)
          obtain ⟨wz, hwz⟩ : ∃ W, W = ((w3.alloc (.cells Z 30)).setRow gx VR) := ⟨_, rfl⟩
          have HXZ := Lib.hid (show Ext w wz from by rw [hwz]; exact HX4.out)
          have HGZ := Lib.hid (show wz.heap[gx]? = some (.cells VR 30 (0, 0)) from by rw [hwz]; exact HG4.out)
          have HRZ := Lib.hid (show DRd wz B ps from by rw [hwz]; exact HPD.out.ext HX4.out)
          rw [← hwz]
          clear hwz
          have LD := Lib.hid (fun (W : World) (h : AfterH wz W) => show (Instr.loadAt 30 (.pointer (some ⟨gx, 0, none⟩))).run Tryd.prog W = .ok (.agg VR) W from HLB.out W gx (WBlk.ext' HGZ.out h))
          obtain ⟨sb, hsb⟩ : ∃ b, shw (mroot sha rows) t at' many ps = b := ⟨_, rfl⟩
          have C1 := Lib.hid (fun (W : World) (h : AfterH wz W) => show Calls Tryd.prog 16 #[.agg VR, .slice AT T ct, .int .i64 at', .int .i64 many, .slice B p cb] W (fun e w' => e = .returned (.bool sb) ∧ AfterH wz w') from by have h1 := HSC.out W ps B cb (HXZ.out.trans h) (HRZ.out.ext h) ⟨by have := HPC.out; have := HPP.out; omega, by have := HPP.out; omega⟩; rw [hsb, HPP.out] at h1; exact h1.mono fun _ _ x => ⟨x.1, Ext.trans h x.2⟩)
          have C2 := Lib.hid (fun (W : World) (h : AfterH wz W) => show Calls Tryd.prog 17 #[.agg VR, .slice AT T ct, .int .i64 at', .int .i64 many, .slice B p cb] W (fun e w' => e = .returned (.bool sb) ∧ AfterH wz w') from by have h1 := HSR.out W ps B cb (HXZ.out.trans h) (HRZ.out.ext h) ⟨by have := HPC.out; have := HPP.out; omega, by have := HPP.out; omega⟩; rw [hsb, HPP.out] at h1; exact h1.mono fun _ _ x => ⟨x.1, Ext.trans h x.2⟩)
          clear hsb
          go_wp2_with (refine wp_region_quiet (C := AfterH wz) (by kernel_rfl) (by kernel_rfl) (show AfterH wz wz.drew from (Ext.refl wz).drew) ?_)
          refine wpQuiet_load rfl 30 (.tmp 13) rfl (.agg VR) (fun W hW => LD.out W hW) ?_
          refine wpQuiet_step (fun K hK => ?_); go_simp; refine ⟨_, fun _ _ => rfl, hK _ ?_⟩; clear hK K
          refine wpQuiet_step (fun K hK => ?_); go_simp; refine ⟨_, fun _ _ => rfl, hK _ ?_⟩; clear hK K
          refine wpQuiet_step (fun K hK => ?_); go_simp; refine ⟨_, fun _ _ => rfl, hK _ ?_⟩; clear hK K
          refine wpQuiet_step (fun K hK => ?_); go_simp; refine ⟨_, fun _ _ => rfl, hK _ ?_⟩; clear hK K
          refine wpQuiet_step (fun K hK => ?_); go_simp; refine ⟨_, fun W hW => C1.out W hW, hK _ ?_⟩; clear hK K
          refine wpQuiet_load rfl 30 (.tmp 13) rfl (.agg VR) (fun W hW => LD.out W hW) ?_
          refine wpQuiet_step (fun K hK => ?_); go_simp; refine ⟨_, fun _ _ => rfl, hK _ ?_⟩; clear hK K
          refine wpQuiet_step (fun K hK => ?_); go_simp; refine ⟨_, fun _ _ => rfl, hK _ ?_⟩; clear hK K
          refine wpQuiet_step (fun K hK => ?_); go_simp; refine ⟨_, fun _ _ => rfl, hK _ ?_⟩; clear hK K
          refine wpQuiet_step (fun K hK => ?_); go_simp; refine ⟨_, fun _ _ => rfl, hK _ ?_⟩; clear hK K
          refine wpQuiet_step (fun K hK => ?_); go_simp; refine ⟨_, fun W hW => C2.out W hW, hK _ ?_⟩; clear hK K
          cases sb <;> (refine wpQuiet_step (fun K hK => ?_); go_simp; refine ⟨_, fun _ _ => rfl, hK _ ?_⟩; clear hK K; refine wpQuiet_step (fun K hK => ?_); go_simp; refine ⟨_, fun _ _ => rfl, hK _ ?_⟩; clear hK K; refine wpQuiet_nil ?_; intro w9 hx9; have HX9 := Lib.hid (HXZ.out.trans hx9); clear hx9; go_wp2; go_ret; exact ⟨rfl, HX9.out⟩)
        | true =>
          by_cases hin : 0 ≤ at' ∧ at' < (n : Int)
          · obtain ⟨i, rfl⟩ : ∃ i : Nat, at' = (i : Int) := ⟨at'.toNat, by omega⟩
            have hi : i < n := by omega
            have HP := Lib.hid (HRP.out HF.out i hi)
            have HL := Lib.hid (HDB.out HF.out i)
            have hat : ∃ z : Int, (i : Int) = z := ⟨_, rfl⟩
            have d3 : decide ((i : Int) ≥ 0) = true := decide_eq_true (by omega)
            have n3 : 0 ≤ (i : Int) := by omega
            have d4 : decide ((i : Int) < (n : Int)) = true := decide_eq_true (by omega)
            have n4 : (i : Int) < (n : Int) := by omega
            clear hin hat hi
            go_wp2_with fail
            refine (HRR.out HF.out _ HX1.out).mono ?_
            rintro e w3 ⟨rfl, hx3⟩
            have HX3 := Lib.hid (HX1.out.trans hx3)
            clear hx3
            obtain ⟨gx, hgx⟩ : ∃ g, w3.heap.size = g := ⟨_, rfl⟩
            have HGX := Lib.hid (show (w3.alloc (.cells Z 30)).heap[gx]? = some (.cells Z 30 (0, 0)) from by rw [← hgx]; exact heap_alloc_new _ _)
            have HI := Lib.hid HVR.out.info
            have HO := Lib.hid HVR.out.one
            have HZZ := Lib.hid (show Z.size = VR.size from by rw [HVR.out.1]; exact HZ32.out ())
            have HX4 := Lib.hid (show Ext w ((w3.alloc (.cells Z 30)).setRow gx VR) from HX3.out.trans (Ext.setRow ((Ext.refl w3).alloc _) (by rw [← hgx]; exact Nat.le_refl _) VR))
            have HG4 := Lib.hid (setRow_heap _ gx _ VR _ _ HGX.out)
            go_wp2_with (with_reducible refine wpList_store_all rfl 30 (.tmp 13) (.tmp 33) rfl gx Z VR rfl rfl HGX.out HI.out HZZ.out HO.out ?_)
            generalize (w3.alloc (.cells Z 30)).setRow gx VR = w4 at HX4 HG4 ⊢
            clear hgx
            refine (HP.out _ HX4.out).mono ?_
            rintro e w5 ⟨v, rfl, hm, hx5⟩
            have HX5 := Lib.hid (HX4.out.trans hx5)
            have HG5 := Lib.hid (WBlk.ext' HG4.out hx5)
            have HM5 := Lib.hid (hm.down (base' := w.heap.size) HX4.out.size)
            have HS5 := Lib.hid HX5.out.size
            have HR5 := Lib.hid (HPD.out.ext HX5.out)
            have HOB := Lib.hid (fun k e => (HM5.out.block k e).1)
            have HOX := Lib.hid (fun k (e : v.ownBlock = some k) => (hm.block k e).1)
            clear hm hx5
            go_wp2_with (at_builtin; go_loud (refine wpList_append_drd rfl (.tmp 47) (.tmp 48) rfl w.heap.size v (mprf sha rows i) ps rfl HM5.out B p cb rfl HPP.out HR5.out (by have := HL.out; have := HPP.out; omega) HS5.out ?_; intro v' w7 hm7 hg7 hb7; have HM7 := Lib.hid hm7; have HX7 := Lib.hid (HX5.out.more hg7 (fun k e => HOB.out k e)); have HG7 := Lib.hid ((hg7.block gx (lt_of_some HG5.out) (fun e => by have := HOX.out gx e.symm; have := lt_of_some HG4.out; omega)).trans HG5.out); obtain ⟨B7, c7, rfl, hc7, hr7⟩ := hm7.slice; have HR7 := Lib.hid hr7; have HC7 := Lib.hid hc7; have HL7 := Lib.hid (show (mprf sha rows i ++ ps).length ≤ 64 from by rw [List.length_append, HPP.out]; have := HL.out; omega); obtain ⟨qs, hqs⟩ : ∃ q, mprf sha rows i ++ ps = q := ⟨_, rfl⟩; rw [hqs] at HR7 HC7 HL7 ⊢; clear hm7 hg7 hb7 hr7 hc7 HM7 hqs))
            obtain ⟨wz, hwz⟩ : ∃ W, W = w7 := ⟨_, rfl⟩
            have HXZ := Lib.hid (show Ext w wz from by rw [hwz]; exact HX7.out)
            have HGZ := Lib.hid (show wz.heap[gx]? = some (.cells VR 30 (0, 0)) from by rw [hwz]; exact HG7.out)
            have HRZ := Lib.hid (show DRd wz B7 qs from by rw [hwz]; exact HR7.out)
            rw [← hwz]
            clear hwz
            have LD := Lib.hid (fun (W : World) (h : AfterH wz W) => show (Instr.loadAt 30 (.pointer (some ⟨gx, 0, none⟩))).run Tryd.prog W = .ok (.agg VR) W from HLB.out W gx (WBlk.ext' HGZ.out h))
            obtain ⟨sb, hsb⟩ : ∃ b, shw (mroot sha rows) t (i : Int) many qs = b := ⟨_, rfl⟩
            have C1 := Lib.hid (fun (W : World) (h : AfterH wz W) => show Calls Tryd.prog 16 #[.agg VR, .slice AT T ct, .int .i64 (i : Int), .int .i64 many, .slice B7 qs.length c7] W (fun e w' => e = .returned (.bool sb) ∧ AfterH wz w') from by have h1 := HSC.out W qs B7 c7 (HXZ.out.trans h) (HRZ.out.ext h) ⟨HC7.out, HL7.out⟩; rw [hsb] at h1; exact h1.mono fun _ _ x => ⟨x.1, Ext.trans h x.2⟩)
            have C2 := Lib.hid (fun (W : World) (h : AfterH wz W) => show Calls Tryd.prog 17 #[.agg VR, .slice AT T ct, .int .i64 (i : Int), .int .i64 many, .slice B7 qs.length c7] W (fun e w' => e = .returned (.bool sb) ∧ AfterH wz w') from by have h1 := HSR.out W qs B7 c7 (HXZ.out.trans h) (HRZ.out.ext h) ⟨HC7.out, HL7.out⟩; rw [hsb] at h1; exact h1.mono fun _ _ x => ⟨x.1, Ext.trans h x.2⟩)
            clear hsb
            go_wp2_with (refine wp_region_quiet (C := AfterH wz) (by kernel_rfl) (by kernel_rfl) (show AfterH wz wz.drew from (Ext.refl wz).drew) ?_)
            refine wpQuiet_load rfl 30 (.tmp 13) rfl (.agg VR) (fun W hW => LD.out W hW) ?_
            refine wpQuiet_step (fun K hK => ?_); go_simp; refine ⟨_, fun _ _ => rfl, hK _ ?_⟩; clear hK K
            refine wpQuiet_step (fun K hK => ?_); go_simp; refine ⟨_, fun _ _ => rfl, hK _ ?_⟩; clear hK K
            refine wpQuiet_step (fun K hK => ?_); go_simp; refine ⟨_, fun _ _ => rfl, hK _ ?_⟩; clear hK K
            refine wpQuiet_step (fun K hK => ?_); go_simp; refine ⟨_, fun _ _ => rfl, hK _ ?_⟩; clear hK K
            refine wpQuiet_step (fun K hK => ?_); go_simp; refine ⟨_, fun W hW => C1.out W hW, hK _ ?_⟩; clear hK K
            refine wpQuiet_load rfl 30 (.tmp 13) rfl (.agg VR) (fun W hW => LD.out W hW) ?_
            refine wpQuiet_step (fun K hK => ?_); go_simp; refine ⟨_, fun _ _ => rfl, hK _ ?_⟩; clear hK K
            refine wpQuiet_step (fun K hK => ?_); go_simp; refine ⟨_, fun _ _ => rfl, hK _ ?_⟩; clear hK K
            refine wpQuiet_step (fun K hK => ?_); go_simp; refine ⟨_, fun _ _ => rfl, hK _ ?_⟩; clear hK K
            refine wpQuiet_step (fun K hK => ?_); go_simp; refine ⟨_, fun _ _ => rfl, hK _ ?_⟩; clear hK K
            refine wpQuiet_step (fun K hK => ?_); go_simp; refine ⟨_, fun W hW => C2.out W hW, hK _ ?_⟩; clear hK K
            cases sb <;> (refine wpQuiet_step (fun K hK => ?_); go_simp; refine ⟨_, fun _ _ => rfl, hK _ ?_⟩; clear hK K; refine wpQuiet_step (fun K hK => ?_); go_simp; refine ⟨_, fun _ _ => rfl, hK _ ?_⟩; clear hK K; refine wpQuiet_nil ?_; intro w9 hx9; have HX9 := Lib.hid (HXZ.out.trans hx9); clear hx9; go_wp2; go_ret; exact ⟨rfl, HX9.out⟩)
          · by_cases h0 : at' < 0
            · skip
              have d3 : decide (at' ≥ 0) = false := decide_eq_false (by omega)
              have n3 : ¬ 0 ≤ at' := by omega
              clear hin
              go_wp2_with fail
              refine (HRR.out HF.out _ HX1.out).mono ?_
              rintro e w3 ⟨rfl, hx3⟩
              have HX3 := Lib.hid (HX1.out.trans hx3)
              clear hx3
              obtain ⟨gx, hgx⟩ : ∃ g, w3.heap.size = g := ⟨_, rfl⟩
              have HGX := Lib.hid (show (w3.alloc (.cells Z 30)).heap[gx]? = some (.cells Z 30 (0, 0)) from by rw [← hgx]; exact heap_alloc_new _ _)
              have HI := Lib.hid HVR.out.info
              have HO := Lib.hid HVR.out.one
              have HZZ := Lib.hid (show Z.size = VR.size from by rw [HVR.out.1]; exact HZ32.out ())
              have HX4 := Lib.hid (show Ext w ((w3.alloc (.cells Z 30)).setRow gx VR) from HX3.out.trans (Ext.setRow ((Ext.refl w3).alloc _) (by rw [← hgx]; exact Nat.le_refl _) VR))
              have HG4 := Lib.hid (setRow_heap _ gx _ VR _ _ HGX.out)
              go_wp2_with (with_reducible refine wpList_store_all rfl 30 (.tmp 13) (.tmp 33) rfl gx Z VR rfl rfl HGX.out HI.out HZZ.out HO.out ?_)
              obtain ⟨wz, hwz⟩ : ∃ W, W = ((w3.alloc (.cells Z 30)).setRow gx VR) := ⟨_, rfl⟩
              have HXZ := Lib.hid (show Ext w wz from by rw [hwz]; exact HX4.out)
              have HGZ := Lib.hid (show wz.heap[gx]? = some (.cells VR 30 (0, 0)) from by rw [hwz]; exact HG4.out)
              have HRZ := Lib.hid (show DRd wz B ps from by rw [hwz]; exact HPD.out.ext HX4.out)
              rw [← hwz]
              clear hwz
              have LD := Lib.hid (fun (W : World) (h : AfterH wz W) => show (Instr.loadAt 30 (.pointer (some ⟨gx, 0, none⟩))).run Tryd.prog W = .ok (.agg VR) W from HLB.out W gx (WBlk.ext' HGZ.out h))
              obtain ⟨sb, hsb⟩ : ∃ b, shw (mroot sha rows) t at' many ps = b := ⟨_, rfl⟩
              have C1 := Lib.hid (fun (W : World) (h : AfterH wz W) => show Calls Tryd.prog 16 #[.agg VR, .slice AT T ct, .int .i64 at', .int .i64 many, .slice B p cb] W (fun e w' => e = .returned (.bool sb) ∧ AfterH wz w') from by have h1 := HSC.out W ps B cb (HXZ.out.trans h) (HRZ.out.ext h) ⟨by have := HPC.out; have := HPP.out; omega, by have := HPP.out; omega⟩; rw [hsb, HPP.out] at h1; exact h1.mono fun _ _ x => ⟨x.1, Ext.trans h x.2⟩)
              have C2 := Lib.hid (fun (W : World) (h : AfterH wz W) => show Calls Tryd.prog 17 #[.agg VR, .slice AT T ct, .int .i64 at', .int .i64 many, .slice B p cb] W (fun e w' => e = .returned (.bool sb) ∧ AfterH wz w') from by have h1 := HSR.out W ps B cb (HXZ.out.trans h) (HRZ.out.ext h) ⟨by have := HPC.out; have := HPP.out; omega, by have := HPP.out; omega⟩; rw [hsb, HPP.out] at h1; exact h1.mono fun _ _ x => ⟨x.1, Ext.trans h x.2⟩)
              clear hsb
              go_wp2_with (refine wp_region_quiet (C := AfterH wz) (by kernel_rfl) (by kernel_rfl) (show AfterH wz wz.drew from (Ext.refl wz).drew) ?_)
              refine wpQuiet_load rfl 30 (.tmp 13) rfl (.agg VR) (fun W hW => LD.out W hW) ?_
              refine wpQuiet_step (fun K hK => ?_); go_simp; refine ⟨_, fun _ _ => rfl, hK _ ?_⟩; clear hK K
              refine wpQuiet_step (fun K hK => ?_); go_simp; refine ⟨_, fun _ _ => rfl, hK _ ?_⟩; clear hK K
              refine wpQuiet_step (fun K hK => ?_); go_simp; refine ⟨_, fun _ _ => rfl, hK _ ?_⟩; clear hK K
              refine wpQuiet_step (fun K hK => ?_); go_simp; refine ⟨_, fun _ _ => rfl, hK _ ?_⟩; clear hK K
              refine wpQuiet_step (fun K hK => ?_); go_simp; refine ⟨_, fun W hW => C1.out W hW, hK _ ?_⟩; clear hK K
              refine wpQuiet_load rfl 30 (.tmp 13) rfl (.agg VR) (fun W hW => LD.out W hW) ?_
              refine wpQuiet_step (fun K hK => ?_); go_simp; refine ⟨_, fun _ _ => rfl, hK _ ?_⟩; clear hK K
              refine wpQuiet_step (fun K hK => ?_); go_simp; refine ⟨_, fun _ _ => rfl, hK _ ?_⟩; clear hK K
              refine wpQuiet_step (fun K hK => ?_); go_simp; refine ⟨_, fun _ _ => rfl, hK _ ?_⟩; clear hK K
              refine wpQuiet_step (fun K hK => ?_); go_simp; refine ⟨_, fun _ _ => rfl, hK _ ?_⟩; clear hK K
              refine wpQuiet_step (fun K hK => ?_); go_simp; refine ⟨_, fun W hW => C2.out W hW, hK _ ?_⟩; clear hK K
              cases sb <;> (refine wpQuiet_step (fun K hK => ?_); go_simp; refine ⟨_, fun _ _ => rfl, hK _ ?_⟩; clear hK K; refine wpQuiet_step (fun K hK => ?_); go_simp; refine ⟨_, fun _ _ => rfl, hK _ ?_⟩; clear hK K; refine wpQuiet_nil ?_; intro w9 hx9; have HX9 := Lib.hid (HXZ.out.trans hx9); clear hx9; go_wp2; go_ret; exact ⟨rfl, HX9.out⟩)
            · skip
              have d3 : decide (at' ≥ 0) = true := decide_eq_true (by omega)
              have n3 : 0 ≤ at' := by omega
              have d4 : decide (at' < (n : Int)) = false := decide_eq_false (by omega)
              have n4 : ¬ at' < (n : Int) := by omega
              clear hin
              go_wp2_with fail
              refine (HRR.out HF.out _ HX1.out).mono ?_
              rintro e w3 ⟨rfl, hx3⟩
              have HX3 := Lib.hid (HX1.out.trans hx3)
              clear hx3
              obtain ⟨gx, hgx⟩ : ∃ g, w3.heap.size = g := ⟨_, rfl⟩
              have HGX := Lib.hid (show (w3.alloc (.cells Z 30)).heap[gx]? = some (.cells Z 30 (0, 0)) from by rw [← hgx]; exact heap_alloc_new _ _)
              have HI := Lib.hid HVR.out.info
              have HO := Lib.hid HVR.out.one
              have HZZ := Lib.hid (show Z.size = VR.size from by rw [HVR.out.1]; exact HZ32.out ())
              have HX4 := Lib.hid (show Ext w ((w3.alloc (.cells Z 30)).setRow gx VR) from HX3.out.trans (Ext.setRow ((Ext.refl w3).alloc _) (by rw [← hgx]; exact Nat.le_refl _) VR))
              have HG4 := Lib.hid (setRow_heap _ gx _ VR _ _ HGX.out)
              go_wp2_with (with_reducible refine wpList_store_all rfl 30 (.tmp 13) (.tmp 33) rfl gx Z VR rfl rfl HGX.out HI.out HZZ.out HO.out ?_)
              obtain ⟨wz, hwz⟩ : ∃ W, W = ((w3.alloc (.cells Z 30)).setRow gx VR) := ⟨_, rfl⟩
              have HXZ := Lib.hid (show Ext w wz from by rw [hwz]; exact HX4.out)
              have HGZ := Lib.hid (show wz.heap[gx]? = some (.cells VR 30 (0, 0)) from by rw [hwz]; exact HG4.out)
              have HRZ := Lib.hid (show DRd wz B ps from by rw [hwz]; exact HPD.out.ext HX4.out)
              rw [← hwz]
              clear hwz
              have LD := Lib.hid (fun (W : World) (h : AfterH wz W) => show (Instr.loadAt 30 (.pointer (some ⟨gx, 0, none⟩))).run Tryd.prog W = .ok (.agg VR) W from HLB.out W gx (WBlk.ext' HGZ.out h))
              obtain ⟨sb, hsb⟩ : ∃ b, shw (mroot sha rows) t at' many ps = b := ⟨_, rfl⟩
              have C1 := Lib.hid (fun (W : World) (h : AfterH wz W) => show Calls Tryd.prog 16 #[.agg VR, .slice AT T ct, .int .i64 at', .int .i64 many, .slice B p cb] W (fun e w' => e = .returned (.bool sb) ∧ AfterH wz w') from by have h1 := HSC.out W ps B cb (HXZ.out.trans h) (HRZ.out.ext h) ⟨by have := HPC.out; have := HPP.out; omega, by have := HPP.out; omega⟩; rw [hsb, HPP.out] at h1; exact h1.mono fun _ _ x => ⟨x.1, Ext.trans h x.2⟩)
              have C2 := Lib.hid (fun (W : World) (h : AfterH wz W) => show Calls Tryd.prog 17 #[.agg VR, .slice AT T ct, .int .i64 at', .int .i64 many, .slice B p cb] W (fun e w' => e = .returned (.bool sb) ∧ AfterH wz w') from by have h1 := HSR.out W ps B cb (HXZ.out.trans h) (HRZ.out.ext h) ⟨by have := HPC.out; have := HPP.out; omega, by have := HPP.out; omega⟩; rw [hsb, HPP.out] at h1; exact h1.mono fun _ _ x => ⟨x.1, Ext.trans h x.2⟩)
              clear hsb
              go_wp2_with (refine wp_region_quiet (C := AfterH wz) (by kernel_rfl) (by kernel_rfl) (show AfterH wz wz.drew from (Ext.refl wz).drew) ?_)
              refine wpQuiet_load rfl 30 (.tmp 13) rfl (.agg VR) (fun W hW => LD.out W hW) ?_
              refine wpQuiet_step (fun K hK => ?_); go_simp; refine ⟨_, fun _ _ => rfl, hK _ ?_⟩; clear hK K
              refine wpQuiet_step (fun K hK => ?_); go_simp; refine ⟨_, fun _ _ => rfl, hK _ ?_⟩; clear hK K
              refine wpQuiet_step (fun K hK => ?_); go_simp; refine ⟨_, fun _ _ => rfl, hK _ ?_⟩; clear hK K
              refine wpQuiet_step (fun K hK => ?_); go_simp; refine ⟨_, fun _ _ => rfl, hK _ ?_⟩; clear hK K
              refine wpQuiet_step (fun K hK => ?_); go_simp; refine ⟨_, fun W hW => C1.out W hW, hK _ ?_⟩; clear hK K
              refine wpQuiet_load rfl 30 (.tmp 13) rfl (.agg VR) (fun W hW => LD.out W hW) ?_
              refine wpQuiet_step (fun K hK => ?_); go_simp; refine ⟨_, fun _ _ => rfl, hK _ ?_⟩; clear hK K
              refine wpQuiet_step (fun K hK => ?_); go_simp; refine ⟨_, fun _ _ => rfl, hK _ ?_⟩; clear hK K
              refine wpQuiet_step (fun K hK => ?_); go_simp; refine ⟨_, fun _ _ => rfl, hK _ ?_⟩; clear hK K
              refine wpQuiet_step (fun K hK => ?_); go_simp; refine ⟨_, fun _ _ => rfl, hK _ ?_⟩; clear hK K
              refine wpQuiet_step (fun K hK => ?_); go_simp; refine ⟨_, fun W hW => C2.out W hW, hK _ ?_⟩; clear hK K
              cases sb <;> (refine wpQuiet_step (fun K hK => ?_); go_simp; refine ⟨_, fun _ _ => rfl, hK _ ?_⟩; clear hK K; refine wpQuiet_step (fun K hK => ?_); go_simp; refine ⟨_, fun _ _ => rfl, hK _ ?_⟩; clear hK K; refine wpQuiet_nil ?_; intro w9 hx9; have HX9 := Lib.hid (HXZ.out.trans hx9); clear hx9; go_wp2; go_ret; exact ⟨rfl, HX9.out⟩)
      · have d2 : decide ((p : Int) > 24) = true := decide_eq_true (by omega)
        go_wp2_with fail
        refine (HAW.out _ HX1.out).mono ?_
        rintro e w3 ⟨rfl, hx3⟩
        have HX3 := Lib.hid (HX1.out.trans hx3)
        clear hx3
        go_wp2
        go_ret
        exact ⟨rfl, HX3.out⟩
    · have d1 : decide ((T : Int) > 20) = true := decide_eq_true (by omega)
      go_wp2_with fail
      refine (HAW.out _ HX1.out).mono ?_
      rintro e w3 ⟨rfl, hx3⟩
      have HX3 := Lib.hid (HX1.out.trans hx3)
      clear hx3
      go_wp2
      go_ret
      exact ⟨rfl, HX3.out⟩
end Go.Proofs.YthbfodmpoheahaaDoor

/-
  Numbers of one kind in a block of a call's own, that are changed one by one; what stays while other blocks are written. Conditions: none.
-/
namespace Go.Proofs.YthbfodmpoheahaaDoor
open Go.RowKit
open Pol (co Sm)

section
variable {k : IntKind}
/-- The first n cells of block g are the numbers F of kind k, and may be written. -/
def NCells (k : IntKind) (w : World) (g n : Nat) (F : Nat → Nat) : Prop := ∀ i, i < n → w.cell? ⟨g, i, none⟩ = some (.int k ((F i : Nat) : Int)) ∧ w.frozen? ⟨g, i, none⟩ = false
theorem NCells.drewN {w : World} {g n : Nat} {F : Nat → Nat} (h : NCells k w g n F) (q : Nat) : NCells k (w.drewN q) g n F := h
theorem NCells.congr {w : World} {g n : Nat} {F F' : Nat → Nat} (h : NCells k w g n F) (hf : ∀ i, i < n → F i = F' i) : NCells k w g n F' := fun i hi => ⟨by rw [(h i hi).1, hf i hi], (h i hi).2⟩
theorem NCells.store {w : World} {g n : Nat} {F : Nat → Nat} (h : NCells k w g n F) (j v : Nat) : NCells k (w.setCell ⟨g, j, none⟩ (.int k (v : Int))) g n (upd F j v) := fun i hi => by
  refine ⟨?_, by rw [World.frozen?_setCell]; exact (h i hi).2⟩
  unfold upd
  by_cases e : i = j
  · subst e
    rw [if_pos rfl]
    exact World.cell?_setCell_same' _ _ _ (by rw [(h i hi).1]; rfl)
  · rw [if_neg e, World.cell?_setCell_other _ _ _ _ (fun h => e (by cases h; rfl))]
    exact (h i hi).1
theorem NCells.keep {w w' : World} {g n : Nat} {F : Nat → Nat} {row : Option Nat} (h : NCells k w g n F) (hg : w.grownBy w' row) (hne : some g ≠ row) : NCells k w' g n F := fun i hi =>
  ⟨hg.cell (h i hi).1 hne, (World.frozen?_of_block (a := ⟨g, i, none⟩) (hg.block g (block_lt_of_cell (h i hi).1) hne)).trans (h i hi).2⟩
theorem NCells.ext {w w' : World} {g n : Nat} {F : Nat → Nat} (h : NCells k w g n F) (hx : Ext w w') : NCells k w' g n F := fun i hi =>
  ⟨(hx.below.cell (p := ⟨g, i, none⟩) (block_lt_of_cell (h i hi).1)).trans (h i hi).1, (hx.below.frozen (p := ⟨g, i, none⟩) (block_lt_of_cell (h i hi).1)).trans (h i hi).2⟩
theorem NRd.keep {w w' : World} {A : Option Addr} {l : List Nat} {row : Option Nat} (h : NRd k w A l) (hg : w.grownBy w' row) (hne : ∀ b o, A = some ⟨b, o, none⟩ → 0 < l.length → some b ≠ row) : NRd k w' A l := fun i hi => by
  obtain ⟨b, o, e, hc⟩ := h i hi
  exact ⟨b, o, e, hg.cell hc (hne b o e (by omega))⟩
theorem NMine.cells {T : TypeId} {w : World} {base : Nat} {v : Value} {l : List Nat} (hm : NMine T k w base v l) : ∃ A c g, v = .slice A l.length c ∧ l.length ≤ c ∧ (0 < l.length → A = some ⟨g, 0, none⟩ ∧ base ≤ g) ∧ NCells k w g l.length (co l) := by
  rcases hm.2 with ⟨rfl, hn⟩ | ⟨g, cap, cur, rfl, hb, hg, hnc, _, _, htake⟩
  · have : l = [] := List.eq_nil_of_length_eq_zero hn
    subst this
    exact ⟨none, 0, 0, rfl, Nat.le_refl _, fun h => absurd h (by simp), fun i hi => absurd hi (by simp)⟩
  · refine ⟨_, cap, g, rfl, hnc, fun _ => ⟨rfl, hb⟩, fun i hi => ⟨?_, frozen_of_row w g i cur _ hg⟩⟩
    rw [cell_of_row w g i cur _ _ hg, ← nv_at l i hi, ← htake, List.getElem?_take, if_pos (by omega)]
    simp
end
end Go.Proofs.YthbfodmpoheahaaDoor

/-
  What the document's own square and cube of layer 10 do. Conditions: a number below 2^16.
-/
namespace Go.Proofs.YthbfodmpoheahaaDoor
open Go.RowKit
open Pol (co Sm)

set_option maxHeartbeats 800000 in
set_option maxRecDepth 100000 in
theorem ref10_square (p : Nat) (w : World) (hp : p < 65536) :
    Calls Tryd.prog 45 #[.int .u64 (p : Int)] w (Tells (.int .u32 ((rtx 2 p 37 0 % 4294967296 : Nat) : Int)) w) := by
  have HAB := Lib.hid (fun (x : Nat) (ans : Bool) (W : World) (hx : x < 1099511627776) (ha : decide (p * 65536 ^ (2 * 2) < x ^ 2) = ans) => show Calls Tryd.prog 59 #[.slice (some ⟨W.heap.size, 0, none⟩) 2 2, .int .u64 (p : Int), .int .i64 2] (W.alloc (.cells (nv .u64 [x, x]).toArray 68)) (Tells (.bool ans) (W.alloc (.cells (nv .u64 [x, x]).toArray 68))) from by
    have h := ref10_above [x, x] p 2 W.heap.size 0 2 (W.alloc (.cells (nv .u64 [x, x]).toArray 68)) (fun i hi => by
      obtain ⟨b, o, e, hc⟩ := nrd_lit (k := .u64) (T := 68) W [x, x] i hi
      injection e with e
      injection e with e1 e2
      subst e1; subst e2
      exact hc) (fun f hf => by simp at hf; omega) (by simp) hp (by decide)
    rw [show [x, x].foldl (· * ·) 1 = x ^ 2 from by simp [Nat.pow_succ], ha] at h
    exact h)
  obtain ⟨R, hR⟩ : ∃ R, rtx 2 p 37 0 = R := ⟨_, rfl⟩
  have HRR := Lib.hid hR
  have hRb : R < 137438953472 := by rw [← hR]; have := rtx_lt 2 p 37 0; omega
  rw [hR]
  clear hR
  go_enter Tryd.func45, Tryd.ntmps45
  go_wp2
  go_loopg [3, 4] 37 (fun g s3 s4 wx => ∃ (r bit : Nat), s3 = .int .u64 (r : Int) ∧ s4 = .int .u64 (bit : Int) ∧ bit = 2 ^ g / 2 ∧ g ≤ 37 ∧ r + 2 ^ g ≤ 137438953472 ∧ rtx 2 p g r = R ∧ Ext w wx)
  case atStart => exact ⟨0, 68719476736, rfl, rfl, by decide, Nat.le_refl _, by decide, HRR.out, Ext.refl _⟩
  case round =>
    obtain ⟨r, bit, rfl, rfl, hbit, hg37, hrb, hrt, hx⟩ := hrel
    have HX := Lib.hid hx
    clear hx
    cases gk with
    | zero =>
      have hb0 : bit = 0 := by rw [hbit]
      subst hb0
      have hrr : r = R := hrt
      obtain ⟨y, hy⟩ : ∃ y, R % 4294967296 = y := ⟨_, rfl⟩
      have e1 : (R : Int) % 4294967296 = (y : Int) := by omega
      have e2 : IntKind.u32.wrap (y : Int) = (y : Int) := by rw [IntKind.wrap_u32]; omega
      have HY := Lib.hid hy
      clear hbit hrt hy
      subst hrr
      go_wp2
      go_ret
      exact ⟨ret_int (by rw [HY.out]), HX.out⟩
    | succ g =>
      have hbg : bit = 2 ^ g := by rw [hbit, Nat.pow_succ, Nat.mul_div_cancel _ (by decide)]
      have hbp : 0 < bit := by rw [hbg]; exact Nat.two_pow_pos g
      have d1 : decide ((0 : Int) < (bit : Int)) = true := decide_eq_true (by omega)
      have d2 : decide (0 < bit) = true := decide_eq_true hbp
      rw [Nat.pow_succ, ← hbg] at hrb
      rw [rtx, ← hbg] at hrt
      obtain ⟨x, hxx⟩ : ∃ x, r + bit = x := ⟨_, rfl⟩
      rw [hxx] at hrt
      have e1 : (r : Int) + (bit : Int) = (x : Int) := by omega
      obtain ⟨b2, hb2⟩ : ∃ b2, bit / 2 = b2 := ⟨_, rfl⟩
      have e2 : (bit : Int) / 2 = (b2 : Int) := by omega
      have HB2 := Lib.hid (show b2 = 2 ^ g / 2 by rw [← hb2, hbg])
      have HBG := Lib.hid hbg
      have hxb : x < 1099511627776 := by omega
      have hx64 : x < 18446744073709551616 := by omega
      by_cases hab : p * 65536 ^ (2 * 2) < x ^ 2
      · have HA := Lib.hid (HAB.out x true wr hxb (decide_eq_true hab))
        rw [if_pos hab] at hrt
        have HRT := Lib.hid hrt
        have HFIT := Lib.hid (show r + 2 ^ g ≤ 137438953472 by rw [← hbg]; omega)
        clear hab hrt hbit hbg hxx hb2
        go_wp2_with fail
        refine HA.out.mono ?_
        rintro e w1 ⟨rfl, hx1⟩
        have HX1 := Lib.hid ((HX.out.alloc _).trans hx1)
        clear hx1
        go_wp2
        go_roundg g
        case measure => omega
        case rel => exact ⟨r, b2, rfl, by go_num, HB2.out, by omega, HFIT.out, HRT.out, HX1.out⟩
      · have HA := Lib.hid (HAB.out x false wr hxb (decide_eq_false hab))
        rw [if_neg hab] at hrt
        have HRT := Lib.hid hrt
        have HFIT := Lib.hid (show x + 2 ^ g ≤ 137438953472 by rw [← hbg]; omega)
        clear hab hrt hbit hbg hxx hb2
        go_wp2_with fail
        refine HA.out.mono ?_
        rintro e w1 ⟨rfl, hx1⟩
        have HX1 := Lib.hid ((HX.out.alloc _).trans hx1)
        clear hx1
        go_wp2
        go_roundg g
        case measure => omega
        case rel => exact ⟨x, b2, rfl, by go_num, HB2.out, by omega, HFIT.out, HRT.out, HX1.out⟩

set_option maxHeartbeats 800000 in
set_option maxRecDepth 100000 in
theorem ref10_cube (p : Nat) (w : World) (hp : p < 65536) :
    Calls Tryd.prog 46 #[.int .u64 (p : Int)] w (Tells (.int .u32 ((rtx 3 p 37 0 % 4294967296 : Nat) : Int)) w) := by
  have HAB := Lib.hid (fun (x : Nat) (ans : Bool) (W : World) (hx : x < 1099511627776) (ha : decide (p * 65536 ^ (2 * 3) < x ^ 3) = ans) => show Calls Tryd.prog 59 #[.slice (some ⟨W.heap.size, 0, none⟩) 3 3, .int .u64 (p : Int), .int .i64 3] (W.alloc (.cells (nv .u64 [x, x, x]).toArray 68)) (Tells (.bool ans) (W.alloc (.cells (nv .u64 [x, x, x]).toArray 68))) from by
    have h := ref10_above [x, x, x] p 3 W.heap.size 0 3 (W.alloc (.cells (nv .u64 [x, x, x]).toArray 68)) (fun i hi => by
      obtain ⟨b, o, e, hc⟩ := nrd_lit (k := .u64) (T := 68) W [x, x, x] i hi
      injection e with e
      injection e with e1 e2
      subst e1; subst e2
      exact hc) (fun f hf => by simp at hf; omega) (by simp) hp (by decide)
    rw [show [x, x, x].foldl (· * ·) 1 = x ^ 3 from by simp [Nat.pow_succ], ha] at h
    exact h)
  obtain ⟨R, hR⟩ : ∃ R, rtx 3 p 37 0 = R := ⟨_, rfl⟩
  have HRR := Lib.hid hR
  have hRb : R < 137438953472 := by rw [← hR]; have := rtx_lt 3 p 37 0; omega
  rw [hR]
  clear hR
  go_enter Tryd.func46, Tryd.ntmps46
  go_wp2
  go_loopg [3, 4] 37 (fun g s3 s4 wx => ∃ (r bit : Nat), s3 = .int .u64 (r : Int) ∧ s4 = .int .u64 (bit : Int) ∧ bit = 2 ^ g / 2 ∧ g ≤ 37 ∧ r + 2 ^ g ≤ 137438953472 ∧ rtx 3 p g r = R ∧ Ext w wx)
  case atStart => exact ⟨0, 68719476736, rfl, rfl, by decide, Nat.le_refl _, by decide, HRR.out, Ext.refl _⟩
  case round =>
    obtain ⟨r, bit, rfl, rfl, hbit, hg37, hrb, hrt, hx⟩ := hrel
    have HX := Lib.hid hx
    clear hx
    cases gk with
    | zero =>
      have hb0 : bit = 0 := by rw [hbit]
      subst hb0
      have hrr : r = R := hrt
      obtain ⟨y, hy⟩ : ∃ y, R % 4294967296 = y := ⟨_, rfl⟩
      have e1 : (R : Int) % 4294967296 = (y : Int) := by omega
      have e2 : IntKind.u32.wrap (y : Int) = (y : Int) := by rw [IntKind.wrap_u32]; omega
      have HY := Lib.hid hy
      clear hbit hrt hy
      subst hrr
      go_wp2
      go_ret
      exact ⟨ret_int (by rw [HY.out]), HX.out⟩
    | succ g =>
      have hbg : bit = 2 ^ g := by rw [hbit, Nat.pow_succ, Nat.mul_div_cancel _ (by decide)]
      have hbp : 0 < bit := by rw [hbg]; exact Nat.two_pow_pos g
      have d1 : decide ((0 : Int) < (bit : Int)) = true := decide_eq_true (by omega)
      have d2 : decide (0 < bit) = true := decide_eq_true hbp
      rw [Nat.pow_succ, ← hbg] at hrb
      rw [rtx, ← hbg] at hrt
      obtain ⟨x, hxx⟩ : ∃ x, r + bit = x := ⟨_, rfl⟩
      rw [hxx] at hrt
      have e1 : (r : Int) + (bit : Int) = (x : Int) := by omega
      obtain ⟨b2, hb2⟩ : ∃ b2, bit / 2 = b2 := ⟨_, rfl⟩
      have e2 : (bit : Int) / 2 = (b2 : Int) := by omega
      have HB2 := Lib.hid (show b2 = 2 ^ g / 2 by rw [← hb2, hbg])
      have HBG := Lib.hid hbg
      have hxb : x < 1099511627776 := by omega
      have hx64 : x < 18446744073709551616 := by omega
      by_cases hab : p * 65536 ^ (2 * 3) < x ^ 3
      · have HA := Lib.hid (HAB.out x true wr hxb (decide_eq_true hab))
        rw [if_pos hab] at hrt
        have HRT := Lib.hid hrt
        have HFIT := Lib.hid (show r + 2 ^ g ≤ 137438953472 by rw [← hbg]; omega)
        clear hab hrt hbit hbg hxx hb2
        go_wp2_with fail
        refine HA.out.mono ?_
        rintro e w1 ⟨rfl, hx1⟩
        have HX1 := Lib.hid ((HX.out.alloc _).trans hx1)
        clear hx1
        go_wp2
        go_roundg g
        case measure => omega
        case rel => exact ⟨r, b2, rfl, by go_num, HB2.out, by omega, HFIT.out, HRT.out, HX1.out⟩
      · have HA := Lib.hid (HAB.out x false wr hxb (decide_eq_false hab))
        rw [if_neg hab] at hrt
        have HRT := Lib.hid hrt
        have HFIT := Lib.hid (show x + 2 ^ g ≤ 137438953472 by rw [← hbg]; omega)
        clear hab hrt hbit hbg hxx hb2
        go_wp2_with fail
        refine HA.out.mono ?_
        rintro e w1 ⟨rfl, hx1⟩
        have HX1 := Lib.hid ((HX.out.alloc _).trans hx1)
        clear hx1
        go_wp2
        go_roundg g
        case measure => omega
        case rel => exact ⟨x, b2, rfl, by go_num, HB2.out, by omega, HFIT.out, HRT.out, HX1.out⟩
end Go.Proofs.YthbfodmpoheahaaDoor

/-
  What the document's own primes of layer 10 does, of sixty-four. Conditions: none.
-/
namespace Go.Proofs.YthbfodmpoheahaaDoor
open Go.RowKit
open Pol (co Sm)

theorem prs_pos : ∀ n, ∀ q ∈ prs n, 2 ≤ q ∧ q < n
  | 0, q, h => by cases h
  | n + 1, q, h => by
    rw [prs] at h
    split at h
    · rename_i hc
      rcases List.mem_append.1 h with h | h
      · have := prs_pos n q h; omega
      · have : q = n := by simpa using h
        omega
    · have := prs_pos n q h; omega
theorem all_take (l : List Nat) (f : Nat → Bool) (i : Nat) (h : i < l.length) : (l.take (i + 1)).all f = ((l.take i).all f && f (co l i)) := by
  rw [take_snoc l i h, List.all_append]
  simp

set_option maxHeartbeats 800000 in
set_option maxRecDepth 100000 in
theorem ref10_primes (w : World) : Calls Tryd.prog 44 #[.int .i64 64] w (GivesN .u64 68 PR w) := by
  unfold GivesN
  have HPR := Lib.hid prs_last
  have HFEW := Lib.hid prs_few
  have HPOS := Lib.hid prs_pos
  generalize PR = V at *
  have HV64 := Lib.hid (show (prs 312).length = 64 from by rw [prs_last]; rfl)
  go_enter Tryd.func44, Tryd.ntmps44
  go_wp2
  go_loopg [3, 4] 310 (fun g s3 s4 wx => ∃ n : Nat, n + g = 312 ∧ 2 ≤ n ∧ s4 = .int .u64 (n : Int) ∧ NMine 68 .u64 wx w.heap.size s3 (prs n) ∧ Ext w wx)
  case atStart => exact ⟨2, by decide, by decide, rfl, NMine.nil _ _, Ext.refl _⟩
  case round =>
    obtain ⟨n, hng, hn2, rfl, hm, hx⟩ := hrel
    have HM := Lib.hid hm
    have HX := Lib.hid hx
    obtain ⟨B3, c3, rfl, hc3, hr3⟩ := hm.slice
    have HR3 := Lib.hid hr3
    have hs := hx.size
    clear hm hx hr3
    cases gk with
    | zero =>
      obtain rfl : n = 312 := by omega
      have hl := HV64.out
      obtain ⟨LL, hLL⟩ : ∃ LL, (prs 312).length = LL := ⟨_, rfl⟩
      rw [hLL] at hl HM ⊢
      obtain rfl : LL = 64 := hl
      rw [HPR.out] at HM
      clear hLL
      go_wp2
      go_ret
      exact ⟨_, rfl, HM.out, HX.out⟩
    | succ g =>
      have hn : n < 312 := by omega
      have hlt := HFEW.out n hn
      have HPN := Lib.hid (HPOS.out n)
      have HST := Lib.hid (show prs (n + 1) = if (prs n).all (fun q => n % q != 0) then prs n ++ [n] else prs n from by
        rw [prs]
        by_cases h : ((prs n).all fun q => n % q != 0) = true
        · rw [if_pos ⟨hn2, h⟩, if_pos h]
        · rw [if_neg (fun h' => h h'.2), if_neg h])
      obtain ⟨P, hP⟩ : ∃ P, prs n = P := ⟨_, rfl⟩
      rw [hP] at HM HR3 hlt HPN HST hc3 ⊢
      obtain ⟨L, hL⟩ : ∃ L, P.length = L := ⟨_, rfl⟩
      have HL := Lib.hid hL
      rw [hL] at HM hlt hc3 ⊢
      have d1 : decide ((L : Int) < 64) = true := decide_eq_true (by omega)
      have HNG := Lib.hid hng
      clear hP hL hng
      go_wp2
      obtain ⟨wq, hwq⟩ : ∃ q, q = wr := ⟨_, rfl⟩
      subst hwq
      go_loopg [5, 15] L (fun g s5 s15 wx => ∃ i : Nat, i + g = L ∧ s15 = .int .i64 (i : Int) ∧ s5 = .bool ((P.take i).all (fun q => n % q != 0)) ∧ wq = wx)
      case atStart => exact ⟨0, by omega, rfl, rfl, rfl⟩
      case round =>
        obtain ⟨i, hig, rfl, rfl, rfl⟩ := hrel
        cases gk with
        | zero =>
          obtain rfl : i = L := by omega
          have hT : P.take i = P := by rw [← HL.out, List.take_length]
          rw [hT]
          by_cases hall : (P.all fun q => n % q != 0) = true
          · have HS2 := Lib.hid (HST.out.trans (if_pos hall))
            rw [hall]
            clear hig hall hT
            go_wp2_with (at_builtin; refine wpList_append_nums nt64 rfl (.tmp 30) (.tmp 32) rfl w.heap.size (.slice B3 i c3) P [n] rfl (HM.out.ext ((Ext.refl _).alloc _)) wq.heap.size 0 1 1 rfl rfl one_num (by rw [HL.out]; simp; omega) (by simp; omega) ?_; intro v7 w7 hown7 hg7 hat7; rw [← HS2.out] at hown7; have HX7 := Lib.hid ((HX.out.alloc (.cells #[.int .u64 (n : Int)] 68)).more hg7 (fun q hq => (HM.out.block q hq).1)); have HM7 := Lib.hid hown7; clear hown7 hg7 hat7)
            go_roundg g
            case measure => omega
            case rel => exact ⟨n + 1, by have := HNG.out; omega, by omega, by go_num, HM7.out, HX7.out⟩
          · have hall' : (P.all fun q => n % q != 0) = false := by simpa using hall
            have HS2 := Lib.hid (HST.out.trans (if_neg hall))
            rw [hall']
            clear hig hall hT hall'
            go_wp2
            go_roundg g
            case measure => omega
            case rel => exact ⟨n + 1, by have := HNG.out; omega, by omega, by go_num, by rw [HS2.out]; exact HM.out, HX.out⟩
        | succ g2 =>
          have hi : i < L := by omega
          have hiI : (i : Int) < (L : Int) := by omega
          obtain ⟨b, o, rfl, hc⟩ := HR3.out i (by rw [HL.out]; exact hi)
          have HAT := Lib.hid (all_take P (fun q => n % q != 0) i (by rw [HL.out]; exact hi))
          have hq := HPN.out (co P i) (by unfold co; rw [List.getElem?_eq_getElem (by rw [HL.out]; exact hi)]; exact List.getElem_mem _)
          obtain ⟨q, hqe⟩ : ∃ q, co P i = q := ⟨_, rfl⟩
          rw [hqe] at hc hq HAT
          obtain ⟨r, hr⟩ : ∃ r, n % q = r := ⟨_, rfl⟩
          have e1 : (n : Int) % (q : Int) = (r : Int) := by rw [← hr]; omega
          have hqI : (q : Int) ≠ 0 := by omega
          clear hqe
          cases hb : (P.take i).all (fun q => n % q != 0) with
          | false =>
            have HB := Lib.hid (show (P.take (i + 1)).all (fun q => n % q != 0) = false from by rw [HAT.out, hb]; rfl)
            clear hb hr
            go_wp2
            go_roundg g2
            case measure => omega
            case rel => exact ⟨i + 1, by omega, by go_num, by rw [HB.out], rfl⟩
          | true =>
            have HB := Lib.hid (show (P.take (i + 1)).all (fun q => n % q != 0) = (r != 0) from by rw [HAT.out, hb, hr]; rfl)
            clear hb hr
            by_cases hr0 : r = 0
            · subst hr0
              go_wp2
              go_roundg g2
              case measure => omega
              case rel => exact ⟨i + 1, by omega, by go_num, by rw [HB.out]; rfl, rfl⟩
            · have d2 : ((r : Int) != 0) = true := by simp; omega
              have d3 : (r != 0) = true := by simp; omega
              have d4 : decide (r = 0) = false := decide_eq_false hr0
              have d5 : ((r : Int) == 0) = false := by simp; omega
              go_wp2
              go_roundg g2
              case measure => omega
              case rel => exact ⟨i + 1, by omega, by go_num, by rw [HB.out, d3], rfl⟩
end Go.Proofs.YthbfodmpoheahaaDoor

/-
  What the document's own turn of layer 10 does. Conditions: a word, by less than 32.
-/
namespace Go.Proofs.YthbfodmpoheahaaDoor
open Go.RowKit
open Pol (co Sm)

set_option maxHeartbeats 400000 in
theorem ref10_turn (x n : Nat) (w : World) (hx : x < 4294967296) (hn : n < 32) :
    Calls Tryd.prog 47 #[.int .u32 (x : Int), .int .u64 (n : Int)] w (fun e w' => e = .returned (.int .u32 ((tw x n : Nat) : Int)) ∧ w = w') := by
  obtain ⟨m, hm⟩ : ∃ m, 32 - n = m := ⟨_, rfl⟩
  obtain ⟨q, hq⟩ : ∃ q, x / 2 ^ n = q := ⟨_, rfl⟩
  obtain ⟨y, hy⟩ : ∃ y, x * 2 ^ m % 4294967296 = y := ⟨_, rfl⟩
  obtain ⟨z, hz⟩ : ∃ z, tw x n = z := ⟨_, rfl⟩
  have e1 : IntKind.u64.wrap (32 - (n : Int)) = (m : Int) := by rw [IntKind.wrap_u64]; omega
  have e1' : 32 - (n : Int) = (m : Int) := by omega
  have e2 : (x : Int) / 2 ^ n = (q : Int) := by rw [← hq]; simp
  have e3 : IntKind.u32.wrap ((x : Int) * 2 ^ m) = (y : Int) := by
    rw [IntKind.wrap_u32, ← hy]
    simp
  have hqb : q < 4294967296 := by rw [← hq]; exact Nat.lt_of_le_of_lt (Nat.div_le_self _ _) hx
  have hyb : y < 4294967296 := by rw [← hy]; exact Nat.mod_lt _ (by decide)
  have e4 : bits .or .u32 (q : Int) (y : Int) = (z : Int) := by
    rw [u32_or_nat q y hqb hyb, ← hz]
    unfold tw
    rw [hm, hq, hy]
  rw [hz]
  clear hm hq hy hz
  go_enter Tryd.func47, Tryd.ntmps47
  go_wp2
  go_ret
  exact ⟨rfl, rfl⟩
end Go.Proofs.YthbfodmpoheahaaDoor

/-
  Part 11 of the texts that the seat's proofs stand on; each part of it begins with its own sentence and conditions. Conditions: those that each theorem names.
-/
import Derived.Test.YthbfodmpoheahaaDoorGrowsPack10
import Derived.Test.YthbfodmpoheahaaDoorRows
import Derived.LaidMore
import Derived.MakeChecks
import Derived.OpenShut
import Derived.Stop.Joined
import Derived.ProofKit
import Derived.Deep.Slices
import Derived.SizedLaws

/-
  What climb of layer 11 does, of one text, and where the proof is empty. Conditions: the constants of layer 10 lie where they were laid; at most 2^20 texts, a place below them.
-/
namespace Go.Proofs.YthbfodmpoheahaaDoor
open Go.RowKit
open Pol (co Sm)

set_option maxHeartbeats 1600000 in
set_option maxRecDepth 100000 in
theorem mk_climb_one (i : Nat) (d : List Nat) (ps : List (List Nat)) (A : Option Addr) (c : Nat) (w : World) (hd : d.length = 32) (hsm : Sm d) :
    Calls Tryd.prog 32 #[dgv d, .int .i64 (i : Int), .int .i64 1, .slice A ps.length c] w (LiftS d 1 i ps w) := by
  obtain ⟨g0, hg0⟩ : ∃ g, w.heap.size = g := ⟨_, rfl⟩
  have HW0 := Lib.hid hg0
  have hz := zero_digest.1
  have HZ32 := Lib.hid (fun (_ : Unit) => show (bt 32 fun _ => 0).size = 32 from bt_size _ _)
  have HZV := Lib.hid (fun (_ : Unit) => show (bt 32 fun _ => 0) = bt 32 (co (List.replicate 32 0)) from bt_zero)
  obtain ⟨Z, hZ⟩ : ∃ Z, (bt 32 fun _ => 0) = Z := ⟨_, rfl⟩
  rw [hZ] at hz HZ32 HZV
  have HZZ := Lib.hid hZ
  have HD := Lib.hid (And.intro hd hsm)
  have HVD := Lib.hid (bt_dgc d)
  obtain ⟨VD, hVD⟩ : ∃ V, bt 32 (co d) = V := ⟨_, rfl⟩
  have HVE := Lib.hid hVD
  rw [hVD] at HVD
  have hx1 := ((Ext.refl w).alloc (.cells VD 30)).alloc (.cells Z 30)
  have hs1 : ((w.alloc (.cells VD 30)).alloc (.cells Z 30)).heap.size = g0 + 2 := by rw [← hg0]; simp
  have hr0 : ((w.alloc (.cells VD 30)).alloc (.cells Z 30)).heap[g0]? = some (.cells VD 30 (0, 0)) := by
    rw [heap_alloc_old _ _ (by simp; omega), ← hg0]; exact heap_alloc_new w _
  have hr1 : ((w.alloc (.cells VD 30)).alloc (.cells Z 30)).heap[g0 + 1]? = some (.cells Z 30 (0, 0)) := by
    have h := heap_alloc_new (w.alloc (.cells VD 30)) (.cells Z 30)
    rw [show (w.alloc (.cells VD 30)).heap.size = g0 + 1 from by rw [← hg0]; simp] at h
    exact h
  obtain ⟨w1, hw1⟩ : ∃ q, (w.alloc (.cells VD 30)).alloc (.cells Z 30) = q := ⟨_, rfl⟩
  rw [hw1] at hx1 hs1 hr0 hr1
  have HW1 := Lib.hid hw1
  have HX1 := Lib.hid hx1
  have HZ1 := Lib.hid hs1
  have HR0 := Lib.hid hr0
  have HR1 := Lib.hid hr1
  have HIV := Lib.hid HVD.out.info
  have HOV := Lib.hid HVD.out.one
  have HZV9 := Lib.hid (show Z.size = VD.size from by rw [HVD.out.1]; exact HZ32.out ())
  have HLV := Lib.hid (fun (W : World) (h : AfterH w1 W) => show (Instr.loadAt 30 (.pointer (some ⟨g0, 0, none⟩))).run Tryd.prog W = .ok (.agg VD) W from by
    have h2 := load_blk W g0 d 30 (0, 0) (by rw [HVE.out]; exact WBlk.ext' HR0.out h)
    unfold dgv at h2
    rw [HVE.out] at h2
    exact h2)
  unfold dgv
  rw [hVD]
  clear hx1 hs1 hr0 hr1 hw1 hVD
  obtain ⟨p, hp⟩ : ∃ p, ps.length = p := ⟨_, rfl⟩
  obtain ⟨z, e0⟩ : ∃ z, ((p : Int) == 0) = z := ⟨_, rfl⟩
  have HML := Lib.hid (show mlift sha d 1 i ps = if z then some d else none from by
    rw [mlift_one sha d i ps (by omega), ← e0]
    by_cases e : ps = []
    · have h0 : p = 0 := by rw [← hp, e]; rfl
      rw [if_pos e, h0]
      rfl
    · have h0 : p ≠ 0 := fun h => e (List.eq_nil_of_length_eq_zero (by omega))
      have h1 : ((p : Int) == 0) = false := by
        have : (p : Int) ≠ 0 := by omega
        simpa using this
      rw [if_neg e, h1]
      rfl)
  rw [hp]
  have HG3 := Lib.hid (setRow_heap _ (g0 + 1) _ VD _ _ HR1.out)
  have HX3 := Lib.hid (HX1.out.setRow (g := g0 + 1) (by rw [HW0.out]; omega) VD)
  clear hd hsm hZ hp
  go_enter Tryd.func32, Tryd.ntmps32
  go_wp2_with (first | (rw [HW1.out]; with_reducible refine wpList_load_row rfl 30 (.tmp 4) rfl g0 rfl 30 VD (0, 0) _ HR0.out Tryd.underlying30 rfl HIV.out ?_) | with_reducible refine wpList_store_all rfl 30 (.tmp 8) (.tmp 18) rfl (g0 + 1) Z VD rfl rfl HR1.out HIV.out HZV9.out HOV.out ?_)
  exact ⟨rfl, .tuple #[.agg VD, .bool z], results_rt Tryd.results32 _ _ (g0 + 1) 30 VD (0, 0) rfl HG3.out HIV.out, d, z, by rw [← HVE.out]; rfl, HD.out.1, HD.out.2, HX3.out, HML.out⟩
set_option maxHeartbeats 1600000 in
set_option maxRecDepth 100000 in
theorem mk_climb_nil (n i : Nat) (d : List Nat) (A : Option Addr) (c : Nat) (w : World) (h2 : 2 ≤ n) (hd : d.length = 32) (hsm : Sm d) :
    Calls Tryd.prog 32 #[dgv d, .int .i64 (i : Int), .int .i64 (n : Int), .slice A 0 c] w (LiftS d n i [] w) := by
  obtain ⟨g0, hg0⟩ : ∃ g, w.heap.size = g := ⟨_, rfl⟩
  have HW0 := Lib.hid hg0
  have hz := zero_digest.1
  have HZ32 := Lib.hid (fun (_ : Unit) => show (bt 32 fun _ => 0).size = 32 from bt_size _ _)
  have HZV := Lib.hid (fun (_ : Unit) => show (bt 32 fun _ => 0) = bt 32 (co (List.replicate 32 0)) from bt_zero)
  obtain ⟨Z, hZ⟩ : ∃ Z, (bt 32 fun _ => 0) = Z := ⟨_, rfl⟩
  rw [hZ] at hz HZ32 HZV
  have HZZ := Lib.hid hZ
  have HD := Lib.hid (And.intro hd hsm)
  have HVD := Lib.hid (bt_dgc d)
  obtain ⟨VD, hVD⟩ : ∃ V, bt 32 (co d) = V := ⟨_, rfl⟩
  have HVE := Lib.hid hVD
  rw [hVD] at HVD
  have hx1 := ((Ext.refl w).alloc (.cells VD 30)).alloc (.cells Z 30)
  have hs1 : ((w.alloc (.cells VD 30)).alloc (.cells Z 30)).heap.size = g0 + 2 := by rw [← hg0]; simp
  have hr0 : ((w.alloc (.cells VD 30)).alloc (.cells Z 30)).heap[g0]? = some (.cells VD 30 (0, 0)) := by
    rw [heap_alloc_old _ _ (by simp; omega), ← hg0]; exact heap_alloc_new w _
  have hr1 : ((w.alloc (.cells VD 30)).alloc (.cells Z 30)).heap[g0 + 1]? = some (.cells Z 30 (0, 0)) := by
    have h := heap_alloc_new (w.alloc (.cells VD 30)) (.cells Z 30)
    rw [show (w.alloc (.cells VD 30)).heap.size = g0 + 1 from by rw [← hg0]; simp] at h
    exact h
  obtain ⟨w1, hw1⟩ : ∃ q, (w.alloc (.cells VD 30)).alloc (.cells Z 30) = q := ⟨_, rfl⟩
  rw [hw1] at hx1 hs1 hr0 hr1
  have HW1 := Lib.hid hw1
  have HX1 := Lib.hid hx1
  have HZ1 := Lib.hid hs1
  have HR0 := Lib.hid hr0
  have HR1 := Lib.hid hr1
  have HIV := Lib.hid HVD.out.info
  have HOV := Lib.hid HVD.out.one
  have HZV9 := Lib.hid (show Z.size = VD.size from by rw [HVD.out.1]; exact HZ32.out ())
  have HLV := Lib.hid (fun (W : World) (h : AfterH w1 W) => show (Instr.loadAt 30 (.pointer (some ⟨g0, 0, none⟩))).run Tryd.prog W = .ok (.agg VD) W from by
    have h2 := load_blk W g0 d 30 (0, 0) (by rw [HVE.out]; exact WBlk.ext' HR0.out h)
    unfold dgv at h2
    rw [HVE.out] at h2
    exact h2)
  unfold dgv
  rw [hVD]
  clear hx1 hs1 hr0 hr1 hw1 hVD
  have HML := Lib.hid (mlift_nil sha d i h2)
  have d1 : decide ((n : Int) = 1) = false := decide_eq_false (by omega)
  have n1 : ¬ (n : Int) = 1 := by omega
  have n2 : ¬ n = 1 := by omega
  have HIZ := Lib.hid (show (Tryd.prog.info? 30).map (·.size) = some Z.size from by rw [HZ32.out ()]; exact zero_digest.2)
  have HOZ := Lib.hid (show Z.all (·.oneCell') = true from by rw [HZV.out ()]; exact (bt_dgc _).one)
  have HG3 := Lib.hid (setRow_heap _ (g0 + 1) _ Z _ _ HR1.out)
  have HX3 := Lib.hid (HX1.out.setRow (g := g0 + 1) (by rw [HW0.out]; omega) Z)
  have HZS := Lib.hid (show Z.size = Z.size from rfl)
  clear hd hsm hZ h2
  go_enter Tryd.func32, Tryd.ntmps32
  go_wp2_with (rw [HW1.out]; (with_reducible refine wpList_store_all rfl 30 (.tmp 8) (.tmp 25) rfl (g0 + 1) Z Z rfl rfl HR1.out HIZ.out HZS.out HOZ.out ?_))
  exact ⟨rfl, .tuple #[.agg Z, .bool false], results_rt Tryd.results32 _ _ (g0 + 1) 30 Z (0, 0) rfl HG3.out HIZ.out, List.replicate 32 0, false, by unfold dgv; rw [← HZV.out ()], by simp, sm_zeros 32, HX3.out, HML.out⟩
end Go.Proofs.YthbfodmpoheahaaDoor

/-
  What climb of layer 11 does, to the left. Conditions: the constants of layer 10 lie where they were laid; at most 2^20 texts, a place below them.
-/
namespace Go.Proofs.YthbfodmpoheahaaDoor
open Go.RowKit
open Pol (co Sm)

set_option maxHeartbeats 1600000 in
set_option maxRecDepth 100000 in
theorem mk_climb_lo (S : ShaOH) (n i k : Nat) (d : List Nat) (ps : List (List Nat)) (x : List Nat) (A : Option Addr) (c : Nat) (w : World) (hgl : GL w) (h2 : 2 ≤ n) (hnb : n ≤ 1048576) (hd : d.length = 32) (hsm : Sm d) (hr : DRd w A (ps ++ [x])) (hc : ps.length + 1 ≤ c) (hpl : ps.length + 1 ≤ 1048576)
    (hk : spl n = k) (hik : i < k)
    (ih : ∀ W, Ext w W → DRd W A ps → Calls Tryd.prog 32 #[dgv d, .int .i64 (i : Int), .int .i64 (k : Int), .slice A ps.length c] W (LiftS d k i ps W)) :
    Calls Tryd.prog 32 #[dgv d, .int .i64 (i : Int), .int .i64 (n : Int), .slice A (ps.length + 1) c] w (LiftS d n i (ps ++ [x]) w) := by
  have HGL := Lib.hid hgl
  obtain ⟨g0, hg0⟩ : ∃ g, w.heap.size = g := ⟨_, rfl⟩
  have HW0 := Lib.hid hg0
  have hz := zero_digest.1
  have HZ32 := Lib.hid (fun (_ : Unit) => show (bt 32 fun _ => 0).size = 32 from bt_size _ _)
  have HZV := Lib.hid (fun (_ : Unit) => show (bt 32 fun _ => 0) = bt 32 (co (List.replicate 32 0)) from bt_zero)
  obtain ⟨Z, hZ⟩ : ∃ Z, (bt 32 fun _ => 0) = Z := ⟨_, rfl⟩
  rw [hZ] at hz HZ32 HZV
  have HZZ := Lib.hid hZ
  have HD := Lib.hid (And.intro hd hsm)
  have HVD := Lib.hid (bt_dgc d)
  obtain ⟨VD, hVD⟩ : ∃ V, bt 32 (co d) = V := ⟨_, rfl⟩
  have HVE := Lib.hid hVD
  rw [hVD] at HVD
  have hx1 := ((Ext.refl w).alloc (.cells VD 30)).alloc (.cells Z 30)
  have hs1 : ((w.alloc (.cells VD 30)).alloc (.cells Z 30)).heap.size = g0 + 2 := by rw [← hg0]; simp
  have hr0 : ((w.alloc (.cells VD 30)).alloc (.cells Z 30)).heap[g0]? = some (.cells VD 30 (0, 0)) := by
    rw [heap_alloc_old _ _ (by simp; omega), ← hg0]; exact heap_alloc_new w _
  have hr1 : ((w.alloc (.cells VD 30)).alloc (.cells Z 30)).heap[g0 + 1]? = some (.cells Z 30 (0, 0)) := by
    have h := heap_alloc_new (w.alloc (.cells VD 30)) (.cells Z 30)
    rw [show (w.alloc (.cells VD 30)).heap.size = g0 + 1 from by rw [← hg0]; simp] at h
    exact h
  obtain ⟨w1, hw1⟩ : ∃ q, (w.alloc (.cells VD 30)).alloc (.cells Z 30) = q := ⟨_, rfl⟩
  rw [hw1] at hx1 hs1 hr0 hr1
  have HW1 := Lib.hid hw1
  have HX1 := Lib.hid hx1
  have HZ1 := Lib.hid hs1
  have HR0 := Lib.hid hr0
  have HR1 := Lib.hid hr1
  have HIV := Lib.hid HVD.out.info
  have HOV := Lib.hid HVD.out.one
  have HZV9 := Lib.hid (show Z.size = VD.size from by rw [HVD.out.1]; exact HZ32.out ())
  have HLV := Lib.hid (fun (W : World) (h : AfterH w1 W) => show (Instr.loadAt 30 (.pointer (some ⟨g0, 0, none⟩))).run Tryd.prog W = .ok (.agg VD) W from by
    have h2 := load_blk W g0 d 30 (0, 0) (by rw [HVE.out]; exact WBlk.ext' HR0.out h)
    unfold dgv at h2
    rw [HVE.out] at h2
    exact h2)
  unfold dgv
  rw [hVD]
  clear hx1 hs1 hr0 hr1 hw1 hVD
  have HR := Lib.hid hr
  have HPL := Lib.hid (show (ps ++ [x]).length = ps.length + 1 from by simp)
  have hk1 := spl_lt h2
  have hk0 := spl_pos n
  have HSP := Lib.hid (fun W => mk_leftH n W (by omega) h2)
  have HXX := Lib.hid (show x.length = 32 ∧ Sm x from by
    have h := HR.out.one ps.length (by rw [HPL.out]; omega)
    rw [show ro (ps ++ [x]) ps.length = x from by unfold ro; simp] at h
    exact h)
  have HRQ := Lib.hid (show DRd w A ps from by
    have h := HR.out.take ps.length
    rwa [List.take_left] at h)
  obtain ⟨b, o, rfl, hcell⟩ := HR.out.addr (by rw [HPL.out]; omega)
  have HCL := Lib.hid (show ∀ j, j < 32 → w.cell? ⟨b, o + ps.length * 32 + j, none⟩ = some (.int .u8 ((co x j : Nat) : Int)) from fun j hj => by
    have h := hcell ps.length (by rw [HPL.out]; omega) j hj
    rw [show ro (ps ++ [x]) ps.length = x from by unfold ro; simp] at h
    exact h)
  have HMX := Lib.hid (mlift_lo sha d i ps x h2 (by rw [hk]; exact hik))
  rw [hk] at hk1 hk0 HSP HMX
  have HIH := Lib.hid (fun W (h : Ext w W) => ih W h (HRQ.out.ext h))
  obtain ⟨p, hp⟩ : ∃ p, ps.length = p := ⟨_, rfl⟩
  rw [hp] at HCL hc hpl HIH ⊢
  have ht := fun W => run_to_dig (some ⟨b, o, none⟩) (p + 1) c p (by omega) W
  have HLX := Lib.hid (fun (W : World) (h : Ext w W) => show (Instr.loadAt 30 (.pointer (some ⟨b, o + p * 32, none⟩))).run Tryd.prog W = .ok (dgv x) W from run_load_dig W b (o + p * 32) x (fun j hj => by rw [(h.below.cell (p := ⟨b, o + p * 32 + j, none⟩) (block_lt_of_cell (HCL.out j hj)))]; exact HCL.out j hj))
  have d1 : decide ((n : Int) = 1) = false := decide_eq_false (by omega)
  have n1 : ¬ (n : Int) = 1 := by omega
  have n2 : ¬ n = 1 := by omega
  have d2 : decide (((p + 1 : Nat) : Int) = 0) = false := decide_eq_false (by omega)
  have n3 : ¬ ((p + 1 : Nat) : Int) = 0 := by omega
  have n4 : ¬ (p : Int) + 1 = 0 := by omega
  have hp0 : (0 : Int) ≤ (p : Int) := by omega
  have hp1 : (p : Int) < ((p + 1 : Nat) : Int) := by omega
  have hp2 : (p : Int) < (p : Int) + 1 := by omega
  have hp3 : p < p + 1 := by omega
  have d3 : decide ((i : Int) < (k : Int)) = true := decide_eq_true (by omega)
  have n5 : (i : Int) < (k : Int) := by omega
  have HC3 := Lib.hid (fun W (h : Ext w W) y (hy : y.length = 32) (hsy : Sm y) => mk_join S y x W (HGL.out.ext h) hy HXX.out.1 hsy HXX.out.2)
  have hpb : p ≤ 1048577 := Nat.le_trans (Nat.le_of_succ_le hpl) (by decide)
  have e3 := w64_nat p hpb
  have e1 := w64_pred p hpb
  have e2 := w64_prd p hpb
  unfold LiftS at HIH
  unfold dgv at HIH HLX HC3
  rw [HVE.out] at HIH
  obtain ⟨VX, hVX⟩ : ∃ V, bt 32 (co x) = V := ⟨_, rfl⟩
  have HVX := Lib.hid hVX
  rw [hVX] at HLX HC3
  clear hpb hcell hk hp hnb hd hsm hZ hpl hc h2 ih hk0 hk1 hik hVX hr hgl
  go_enter Tryd.func32, Tryd.ntmps32
  go_wp2_with fail
  rw [HW1.out]
  refine (HSP.out _).mono ?_
  rintro e w2 ⟨rfl, q, rfl⟩
  have HX2 := Lib.hid (show AfterH w1 (w1.drewN q) from (Ext.refl w1).drewN q)
  generalize w1.drewN q = w2 at HX2 ⊢
  obtain ⟨u, hu⟩ : ∃ u, w2.drew = u := ⟨_, rfl⟩
  have HXU := Lib.hid (show AfterH w1 u from by rw [← hu]; exact Ext.drew HX2.out)
  go_wp2_with (refine wp_region_plan (AfterH w1) [0, 1, 2, 3, 4, 5, 6, 7, 8, 9, 10, 11] (.yes 0 (.yes 1 (.yes 2 (.yes 3 (.yes 4 (.yes 5 (.two 6 (.yes 7 (.yes 8 (.yes 9 (.one 10 (.one 11 (.one 12 .done)))))) 10 (.one 6 (.yes 7 (.yes 8 (.yes 9 (.one 11 (.one 12 .done))))))))))))) (by kernel_rfl) (fun c a a' w e h => ⟨e ▸ h.1, h.2⟩) (by kernel_rfl) (by rw [hu]; exact HXU.out) ?_)
  rw [hu]
  clear hu
  refine plan_load rfl 30 (.tmp 4) rfl (.agg VD) (by rfl) (fun W hW => HLV.out W hW) ?_
  refine plan_yes rfl (fun K hK => ?_); go_simp; refine ⟨_, fun _ _ => rfl, hK _ ?_⟩; clear hK K
  refine plan_yes rfl (fun K hK => ?_); go_simp; refine ⟨_, fun _ _ => rfl, hK _ ?_⟩; clear hK K
  refine plan_yes rfl (fun K hK => ?_); go_simp; refine ⟨_, fun _ _ => rfl, hK _ ?_⟩; clear hK K
  refine plan_yes rfl (fun K hK => ?_); go_simp; refine ⟨_, fun _ _ => rfl, hK _ ?_⟩; clear hK K
  refine plan_yes rfl (fun K hK => ?_); go_simp; refine ⟨_, fun _ _ => rfl, hK _ ?_⟩; clear hK K
  refine plan_two rfl rfl (fun K hK => ?_) (fun K hK => ?_)
  · skip
    go_wp2_with fail
    refine (HIH.out _ (HX1.out.trans HXU.out)).mono ?_
    rintro e v4 ⟨y, ok, rfl, hy, hsy, hx4, hml⟩
    have HX4 := Lib.hid (show AfterH w1 v4 from Ext.trans HXU.out hx4)
    have HY := Lib.hid (And.intro hy hsy)
    have HMY := Lib.hid hml
    clear hy hsy hx4 hml
    obtain ⟨VY, hVY⟩ : ∃ V, bt 32 (co y) = V := ⟨_, rfl⟩
    have HVY := Lib.hid (show Dgc VY y from by rw [← hVY]; exact bt_dgc y)
    have HVYE := Lib.hid hVY
    rw [hVY]
    clear hVY
    go_wp2
    refine ⟨fun _ => HX4.out, ?_⟩
    refine plan_yes rfl (fun K hK => ?_); go_simp; refine ⟨_, fun _ _ => rfl, hK _ ?_⟩; clear hK K
    refine plan_yes rfl (fun K hK => ?_); go_simp; refine ⟨_, fun _ _ => rfl, hK _ ?_⟩; clear hK K
    refine plan_yes rfl (fun K hK => ?_); go_simp; refine ⟨_, fun _ _ => rfl, hK _ ?_⟩; clear hK K
    refine plan_one rfl (fun K hK => ?_)
    obtain ⟨gx, hgx⟩ : ∃ g, (v4).heap.size = g := ⟨_, rfl⟩
    have HGX := Lib.hid (show ((v4).alloc (.cells Z 30)).heap[gx]? = some (.cells Z 30 (0, 0)) from by rw [← hgx]; exact heap_alloc_new _ _)
    have HX5 := Lib.hid (show AfterH w1 ((v4).alloc (.cells Z 30)) from Ext.alloc HX4.out _)
    have HGB := Lib.hid (show w1.heap.size ≤ gx from by rw [← hgx]; exact Ext.size HX4.out)
    go_wp2
    refine ⟨fun _ => HX5.out, ?_⟩
    generalize (v4).alloc (.cells Z 30) = v5 at HX5 HGX ⊢
    clear hgx
    have HIY := Lib.hid HVY.out.info
    have HOY := Lib.hid HVY.out.one
    have HZY := Lib.hid (show Z.size = VY.size from by rw [HVY.out.1]; exact HZ32.out ())
    have HX6 := Lib.hid (show Ext w1 (v5.setRow gx VY) from Ext.setRow HX5.out HGB.out VY)
    have HG6 := Lib.hid (setRow_heap _ gx _ VY _ _ HGX.out)
    refine plan_one rfl (fun K hK => ?_)
    go_wp2_with (with_reducible refine wpList_store_all rfl 30 (.tmp 12) (.tmp 42) rfl gx Z VY rfl rfl HGX.out HIY.out HZY.out HOY.out ?_)
    refine ⟨fun _ => HX6.out, ?_⟩
    refine plan_one rfl (fun K hK => ?_)
    go_wp2
    refine ⟨fun h => absurd h (by decide), ?_⟩
    unfold wpPlan
    generalize v5.setRow gx VY = v6 at HX6 HG6 ⊢
    go_wp2
    obtain ⟨u6, hu6⟩ : ∃ u, v6.drew = u := ⟨_, rfl⟩
    have HXU6 := Lib.hid (show AfterH v6 u6 from by rw [← hu6]; exact (Ext.refl v6).drew)
    have LY := Lib.hid (fun (W : World) (h : AftG w gx VY W) => show (Instr.loadAt 30 (.pointer (some ⟨gx, 0, none⟩))).run Tryd.prog W = .ok (.agg VY) W from by
      have h2 := load_blk W gx y 30 (0, 0) (by rw [HVYE.out]; exact h.2)
      unfold dgv at h2
      rw [HVYE.out] at h2
      exact h2)
    have HB := Lib.hid (fun (W : World) (h : AfterH v6 W) => HC3.out W (HX1.out.trans (HX6.out.trans h)) y HY.out.1 HY.out.2)
    rw [HVYE.out] at HB
    refine wp_region_plan (AftG w gx VY) [0, 1, 2, 3, 4, 5, 6, 7] (.yes 0 (.yes 1 (.yes 2 (.yes 3 (.yes 4 (.yes 6 (.one 5 (.one 7 (.one 8 .done))))))))) (by kernel_rfl) (fun c a a' w e h => ⟨e ▸ h.1, h.2⟩) (by kernel_rfl) (by rw [hu6]; exact ⟨HX1.out.trans (HX6.out.trans HXU6.out), WBlk.ext' HG6.out HXU6.out⟩) ?_
    rw [hu6]
    clear hu6
    refine plan_load rfl 30 (.tmp 12) rfl (.agg VY) (by rfl) (fun W hW => LY.out W hW) ?_
    refine plan_yes rfl (fun K hK => ?_); go_simp; refine ⟨_, fun _ _ => rfl, hK _ ?_⟩; clear hK K
    refine plan_yes rfl (fun K hK => ?_); go_simp; refine ⟨_, fun _ _ => rfl, hK _ ?_⟩; clear hK K
    refine plan_yes rfl (fun K hK => ?_); go_simp; refine ⟨_, fun _ _ => rfl, hK _ ?_⟩; clear hK K
    refine plan_load rfl 30 (.tmp 47) rfl (.agg VX) (by rfl) (fun W hW => HLX.out W hW.1) ?_
    refine plan_yes rfl (fun K hK => ?_); go_simp; refine ⟨_, fun _ _ => rfl, hK _ ?_⟩; clear hK K
    refine plan_one rfl (fun K hK => ?_)
    go_wp2_with fail
    refine (HB.out _ HXU6.out).mono ?_
    rintro e w9 ⟨rfl, hx9⟩
    have HX9 := Lib.hid (show AfterH v6 w9 from Ext.trans HXU6.out hx9)
    clear hx9
    obtain ⟨D, hD⟩ : ∃ D, nd sha y x = D := ⟨_, rfl⟩
    have HDL := Lib.hid (show D.length = 32 ∧ Sm D from by rw [← hD]; exact ⟨sha_len _, sha_sm _⟩)
    have HDE := Lib.hid hD
    rw [hD]
    clear hD
    obtain ⟨V, hV⟩ : ∃ V, bt 32 (co D) = V := ⟨_, rfl⟩
    have HVV := Lib.hid hV
    have HV := Lib.hid (show Dgc V D from by rw [← hV]; exact bt_dgc D)
    rw [hV]
    clear hV
    have HC9 := Lib.hid (show AftG w gx VY w9 from ⟨HX1.out.trans (HX6.out.trans HX9.out), WBlk.ext' HG6.out HX9.out⟩)
    go_wp2
    refine ⟨fun _ => HC9.out, ?_⟩
    have HR9 := Lib.hid (WBlk.ext' HR1.out (Ext.trans HX6.out HX9.out))
    have HI9 := Lib.hid HV.out.info
    have HO9 := Lib.hid HV.out.one
    have HZ9 := Lib.hid (show Z.size = V.size from by rw [HV.out.1]; exact HZ32.out ())
    have HG9 := Lib.hid (setRow_heap _ (g0 + 1) _ V _ _ HR9.out)
    have HXF := Lib.hid ((HX1.out.trans (HX6.out.trans HX9.out)).setRow (g := g0 + 1) (by rw [HW0.out]; omega) V)
    refine plan_one rfl (fun K hK => ?_)
    go_wp2_with (with_reducible refine wpList_store_all rfl 30 (.tmp 8) (.tmp 49) rfl (g0 + 1) Z V rfl rfl HR9.out HI9.out HZ9.out HO9.out ?_)
    refine ⟨fun _ => (show AftG w gx VY _ from ⟨HXF.out, setRow_far (by have := HGB.out; have := HZ1.out; omega) HC9.out.2⟩), ?_⟩
    refine plan_one rfl (fun K hK => ?_)
    go_wp2
    refine ⟨fun h => absurd h (by decide), ?_⟩
    unfold wpPlan
    go_wp2
    exact ⟨rfl, .tuple #[.agg V, .bool ok], results_rt Tryd.results32 _ _ (g0 + 1) 30 V (0, 0) rfl HG9.out HI9.out, D, ok, by rw [← HVV.out]; rfl, HDL.out.1, HDL.out.2, HXF.out, by rw [HMX.out, HMY.out, ← HDE.out]; cases ok <;> rfl⟩
  · skip
    obtain ⟨gx, hgx⟩ : ∃ g, (u).heap.size = g := ⟨_, rfl⟩
    have HGX := Lib.hid (show ((u).alloc (.cells Z 30)).heap[gx]? = some (.cells Z 30 (0, 0)) from by rw [← hgx]; exact heap_alloc_new _ _)
    have HX5 := Lib.hid (show AfterH w1 ((u).alloc (.cells Z 30)) from Ext.alloc HXU.out _)
    have HGB := Lib.hid (show w1.heap.size ≤ gx from by rw [← hgx]; exact Ext.size HXU.out)
    go_wp2
    refine ⟨fun _ => HX5.out, ?_⟩
    generalize (u).alloc (.cells Z 30) = v5 at HX5 HGX ⊢
    clear hgx
    refine plan_one rfl (fun K hK => ?_)
    go_wp2_with fail
    refine (HIH.out _ (HX1.out.trans HX5.out)).mono ?_
    rintro e v4 ⟨y, ok, rfl, hy, hsy, hx4, hml⟩
    have HX4 := Lib.hid (show AfterH w1 v4 from Ext.trans HX5.out hx4)
    have HY := Lib.hid (And.intro hy hsy)
    have HMY := Lib.hid hml
    have HGX4 := Lib.hid (WBlk.ext' HGX.out hx4)
    clear hy hsy hx4 hml
    obtain ⟨VY, hVY⟩ : ∃ V, bt 32 (co y) = V := ⟨_, rfl⟩
    have HVY := Lib.hid (show Dgc VY y from by rw [← hVY]; exact bt_dgc y)
    have HVYE := Lib.hid hVY
    rw [hVY]
    clear hVY
    go_wp2
    refine ⟨fun _ => HX4.out, ?_⟩
    refine plan_yes rfl (fun K hK => ?_); go_simp; refine ⟨_, fun _ _ => rfl, hK _ ?_⟩; clear hK K
    refine plan_yes rfl (fun K hK => ?_); go_simp; refine ⟨_, fun _ _ => rfl, hK _ ?_⟩; clear hK K
    refine plan_yes rfl (fun K hK => ?_); go_simp; refine ⟨_, fun _ _ => rfl, hK _ ?_⟩; clear hK K
    have HIY := Lib.hid HVY.out.info
    have HOY := Lib.hid HVY.out.one
    have HZY := Lib.hid (show Z.size = VY.size from by rw [HVY.out.1]; exact HZ32.out ())
    have HX6 := Lib.hid (show Ext w1 (v4.setRow gx VY) from Ext.setRow HX4.out HGB.out VY)
    have HG6 := Lib.hid (setRow_heap _ gx _ VY _ _ HGX4.out)
    refine plan_one rfl (fun K hK => ?_)
    go_wp2_with (with_reducible refine wpList_store_all rfl 30 (.tmp 12) (.tmp 42) rfl gx Z VY rfl rfl HGX4.out HIY.out HZY.out HOY.out ?_)
    refine ⟨fun _ => HX6.out, ?_⟩
    refine plan_one rfl (fun K hK => ?_)
    go_wp2
    refine ⟨fun h => absurd h (by decide), ?_⟩
    unfold wpPlan
    generalize v4.setRow gx VY = v6 at HX6 HG6 ⊢
    go_wp2
    obtain ⟨u6, hu6⟩ : ∃ u, v6.drew = u := ⟨_, rfl⟩
    have HXU6 := Lib.hid (show AfterH v6 u6 from by rw [← hu6]; exact (Ext.refl v6).drew)
    have LY := Lib.hid (fun (W : World) (h : AftG w gx VY W) => show (Instr.loadAt 30 (.pointer (some ⟨gx, 0, none⟩))).run Tryd.prog W = .ok (.agg VY) W from by
      have h2 := load_blk W gx y 30 (0, 0) (by rw [HVYE.out]; exact h.2)
      unfold dgv at h2
      rw [HVYE.out] at h2
      exact h2)
    have HB := Lib.hid (fun (W : World) (h : AfterH v6 W) => HC3.out W (HX1.out.trans (HX6.out.trans h)) y HY.out.1 HY.out.2)
    rw [HVYE.out] at HB
    refine wp_region_plan (AftG w gx VY) [0, 1, 2, 3, 4, 5, 6, 7] (.yes 0 (.yes 1 (.yes 2 (.yes 3 (.yes 4 (.yes 6 (.one 5 (.one 7 (.one 8 .done))))))))) (by kernel_rfl) (fun c a a' w e h => ⟨e ▸ h.1, h.2⟩) (by kernel_rfl) (by rw [hu6]; exact ⟨HX1.out.trans (HX6.out.trans HXU6.out), WBlk.ext' HG6.out HXU6.out⟩) ?_
    rw [hu6]
    clear hu6
    refine plan_load rfl 30 (.tmp 12) rfl (.agg VY) (by rfl) (fun W hW => LY.out W hW) ?_
    refine plan_yes rfl (fun K hK => ?_); go_simp; refine ⟨_, fun _ _ => rfl, hK _ ?_⟩; clear hK K
    refine plan_yes rfl (fun K hK => ?_); go_simp; refine ⟨_, fun _ _ => rfl, hK _ ?_⟩; clear hK K
    refine plan_yes rfl (fun K hK => ?_); go_simp; refine ⟨_, fun _ _ => rfl, hK _ ?_⟩; clear hK K
    refine plan_load rfl 30 (.tmp 47) rfl (.agg VX) (by rfl) (fun W hW => HLX.out W hW.1) ?_
    refine plan_yes rfl (fun K hK => ?_); go_simp; refine ⟨_, fun _ _ => rfl, hK _ ?_⟩; clear hK K
    refine plan_one rfl (fun K hK => ?_)
    go_wp2_with fail
    refine (HB.out _ HXU6.out).mono ?_
    rintro e w9 ⟨rfl, hx9⟩
    have HX9 := Lib.hid (show AfterH v6 w9 from Ext.trans HXU6.out hx9)
    clear hx9
    obtain ⟨D, hD⟩ : ∃ D, nd sha y x = D := ⟨_, rfl⟩
    have HDL := Lib.hid (show D.length = 32 ∧ Sm D from by rw [← hD]; exact ⟨sha_len _, sha_sm _⟩)
    have HDE := Lib.hid hD
    rw [hD]
    clear hD
    obtain ⟨V, hV⟩ : ∃ V, bt 32 (co D) = V := ⟨_, rfl⟩
    have HVV := Lib.hid hV
    have HV := Lib.hid (show Dgc V D from by rw [← hV]; exact bt_dgc D)
    rw [hV]
    clear hV
    have HC9 := Lib.hid (show AftG w gx VY w9 from ⟨HX1.out.trans (HX6.out.trans HX9.out), WBlk.ext' HG6.out HX9.out⟩)
    go_wp2
    refine ⟨fun _ => HC9.out, ?_⟩
    have HR9 := Lib.hid (WBlk.ext' HR1.out (Ext.trans HX6.out HX9.out))
    have HI9 := Lib.hid HV.out.info
    have HO9 := Lib.hid HV.out.one
    have HZ9 := Lib.hid (show Z.size = V.size from by rw [HV.out.1]; exact HZ32.out ())
    have HG9 := Lib.hid (setRow_heap _ (g0 + 1) _ V _ _ HR9.out)
    have HXF := Lib.hid ((HX1.out.trans (HX6.out.trans HX9.out)).setRow (g := g0 + 1) (by rw [HW0.out]; omega) V)
    refine plan_one rfl (fun K hK => ?_)
    go_wp2_with (with_reducible refine wpList_store_all rfl 30 (.tmp 8) (.tmp 49) rfl (g0 + 1) Z V rfl rfl HR9.out HI9.out HZ9.out HO9.out ?_)
    refine ⟨fun _ => (show AftG w gx VY _ from ⟨HXF.out, setRow_far (by have := HGB.out; have := HZ1.out; omega) HC9.out.2⟩), ?_⟩
    refine plan_one rfl (fun K hK => ?_)
    go_wp2
    refine ⟨fun h => absurd h (by decide), ?_⟩
    unfold wpPlan
    go_wp2
    exact ⟨rfl, .tuple #[.agg V, .bool ok], results_rt Tryd.results32 _ _ (g0 + 1) 30 V (0, 0) rfl HG9.out HI9.out, D, ok, by rw [← HVV.out]; rfl, HDL.out.1, HDL.out.2, HXF.out, by rw [HMX.out, HMY.out, ← HDE.out]; cases ok <;> rfl⟩
end Go.Proofs.YthbfodmpoheahaaDoor

/-
  What climb of layer 11 does, to the right. Conditions: the constants of layer 10 lie where they were laid; at most 2^20 texts, a place below them.
-/
namespace Go.Proofs.YthbfodmpoheahaaDoor
open Go.RowKit
open Pol (co Sm)

set_option maxHeartbeats 1600000 in
set_option maxRecDepth 100000 in
theorem mk_climb_hi (S : ShaOH) (n i k : Nat) (d : List Nat) (ps : List (List Nat)) (x : List Nat) (A : Option Addr) (c : Nat) (w : World) (hgl : GL w) (h2 : 2 ≤ n) (hin : i < n) (hnb : n ≤ 1048576) (hd : d.length = 32) (hsm : Sm d) (hr : DRd w A (ps ++ [x])) (hc : ps.length + 1 ≤ c) (hpl : ps.length + 1 ≤ 1048576)
    (hk : spl n = k) (hik : ¬ i < k)
    (ih : ∀ W, Ext w W → DRd W A ps → Calls Tryd.prog 32 #[dgv d, .int .i64 ((i - k : Nat) : Int), .int .i64 ((n - k : Nat) : Int), .slice A ps.length c] W (LiftS d (n - k) (i - k) ps W)) :
    Calls Tryd.prog 32 #[dgv d, .int .i64 (i : Int), .int .i64 (n : Int), .slice A (ps.length + 1) c] w (LiftS d n i (ps ++ [x]) w) := by
  have HGL := Lib.hid hgl
  obtain ⟨g0, hg0⟩ : ∃ g, w.heap.size = g := ⟨_, rfl⟩
  have HW0 := Lib.hid hg0
  have hz := zero_digest.1
  have HZ32 := Lib.hid (fun (_ : Unit) => show (bt 32 fun _ => 0).size = 32 from bt_size _ _)
  have HZV := Lib.hid (fun (_ : Unit) => show (bt 32 fun _ => 0) = bt 32 (co (List.replicate 32 0)) from bt_zero)
  obtain ⟨Z, hZ⟩ : ∃ Z, (bt 32 fun _ => 0) = Z := ⟨_, rfl⟩
  rw [hZ] at hz HZ32 HZV
  have HZZ := Lib.hid hZ
  have HD := Lib.hid (And.intro hd hsm)
  have HVD := Lib.hid (bt_dgc d)
  obtain ⟨VD, hVD⟩ : ∃ V, bt 32 (co d) = V := ⟨_, rfl⟩
  have HVE := Lib.hid hVD
  rw [hVD] at HVD
  have hx1 := ((Ext.refl w).alloc (.cells VD 30)).alloc (.cells Z 30)
  have hs1 : ((w.alloc (.cells VD 30)).alloc (.cells Z 30)).heap.size = g0 + 2 := by rw [← hg0]; simp
  have hr0 : ((w.alloc (.cells VD 30)).alloc (.cells Z 30)).heap[g0]? = some (.cells VD 30 (0, 0)) := by
    rw [heap_alloc_old _ _ (by simp; omega), ← hg0]; exact heap_alloc_new w _
  have hr1 : ((w.alloc (.cells VD 30)).alloc (.cells Z 30)).heap[g0 + 1]? = some (.cells Z 30 (0, 0)) := by
    have h := heap_alloc_new (w.alloc (.cells VD 30)) (.cells Z 30)
    rw [show (w.alloc (.cells VD 30)).heap.size = g0 + 1 from by rw [← hg0]; simp] at h
    exact h
  obtain ⟨w1, hw1⟩ : ∃ q, (w.alloc (.cells VD 30)).alloc (.cells Z 30) = q := ⟨_, rfl⟩
  rw [hw1] at hx1 hs1 hr0 hr1
  have HW1 := Lib.hid hw1
  have HX1 := Lib.hid hx1
  have HZ1 := Lib.hid hs1
  have HR0 := Lib.hid hr0
  have HR1 := Lib.hid hr1
  have HIV := Lib.hid HVD.out.info
  have HOV := Lib.hid HVD.out.one
  have HZV9 := Lib.hid (show Z.size = VD.size from by rw [HVD.out.1]; exact HZ32.out ())
  have HLV := Lib.hid (fun (W : World) (h : AfterH w1 W) => show (Instr.loadAt 30 (.pointer (some ⟨g0, 0, none⟩))).run Tryd.prog W = .ok (.agg VD) W from by
    have h2 := load_blk W g0 d 30 (0, 0) (by rw [HVE.out]; exact WBlk.ext' HR0.out h)
    unfold dgv at h2
    rw [HVE.out] at h2
    exact h2)
  unfold dgv
  rw [hVD]
  clear hx1 hs1 hr0 hr1 hw1 hVD
  have HR := Lib.hid hr
  have HPL := Lib.hid (show (ps ++ [x]).length = ps.length + 1 from by simp)
  have hk1 := spl_lt h2
  have hk0 := spl_pos n
  have HSP := Lib.hid (fun W => mk_leftH n W (by omega) h2)
  have HXX := Lib.hid (show x.length = 32 ∧ Sm x from by
    have h := HR.out.one ps.length (by rw [HPL.out]; omega)
    rw [show ro (ps ++ [x]) ps.length = x from by unfold ro; simp] at h
    exact h)
  have HRQ := Lib.hid (show DRd w A ps from by
    have h := HR.out.take ps.length
    rwa [List.take_left] at h)
  obtain ⟨b, o, rfl, hcell⟩ := HR.out.addr (by rw [HPL.out]; omega)
  have HCL := Lib.hid (show ∀ j, j < 32 → w.cell? ⟨b, o + ps.length * 32 + j, none⟩ = some (.int .u8 ((co x j : Nat) : Int)) from fun j hj => by
    have h := hcell ps.length (by rw [HPL.out]; omega) j hj
    rw [show ro (ps ++ [x]) ps.length = x from by unfold ro; simp] at h
    exact h)
  have HMX := Lib.hid (mlift_hi sha d i ps x h2 (by rw [hk]; exact hik))
  rw [hk] at hk1 hk0 HSP HMX
  have HIH := Lib.hid (fun W (h : Ext w W) => ih W h (HRQ.out.ext h))
  obtain ⟨p, hp⟩ : ∃ p, ps.length = p := ⟨_, rfl⟩
  rw [hp] at HCL hc hpl HIH ⊢
  obtain ⟨j, hj⟩ : ∃ j, i - k = j := ⟨_, rfl⟩
  obtain ⟨r, hrr⟩ : ∃ r, n - k = r := ⟨_, rfl⟩
  have d3 : decide ((i : Int) < (k : Int)) = false := decide_eq_false (by omega)
  have n5 : ¬ (i : Int) < (k : Int) := by omega
  have e4 : (i : Int) - (k : Int) = (j : Int) := by omega
  have e6 : (n : Int) - (k : Int) = (r : Int) := by omega
  have hjb : j ≤ 1048577 := by omega
  have hrb : r ≤ 1048577 := by omega
  have HE5 := Lib.hid (i64_nat j hjb)
  have HE7 := Lib.hid (i64_nat r hrb)
  rw [hj, hrr] at HMX HIH
  clear hj hrr hin hik hjb hrb
  have ht := fun W => run_to_dig (some ⟨b, o, none⟩) (p + 1) c p (by omega) W
  have HLX := Lib.hid (fun (W : World) (h : Ext w W) => show (Instr.loadAt 30 (.pointer (some ⟨b, o + p * 32, none⟩))).run Tryd.prog W = .ok (dgv x) W from run_load_dig W b (o + p * 32) x (fun j hj => by rw [(h.below.cell (p := ⟨b, o + p * 32 + j, none⟩) (block_lt_of_cell (HCL.out j hj)))]; exact HCL.out j hj))
  have d1 : decide ((n : Int) = 1) = false := decide_eq_false (by omega)
  have n1 : ¬ (n : Int) = 1 := by omega
  have n2 : ¬ n = 1 := by omega
  have d2 : decide (((p + 1 : Nat) : Int) = 0) = false := decide_eq_false (by omega)
  have n3 : ¬ ((p + 1 : Nat) : Int) = 0 := by omega
  have n4 : ¬ (p : Int) + 1 = 0 := by omega
  have hp0 : (0 : Int) ≤ (p : Int) := by omega
  have hp1 : (p : Int) < ((p + 1 : Nat) : Int) := by omega
  have hp2 : (p : Int) < (p : Int) + 1 := by omega
  have hp3 : p < p + 1 := by omega
  have HC3 := Lib.hid (fun W (h : Ext w W) y (hy : y.length = 32) (hsy : Sm y) => mk_join S x y W (HGL.out.ext h) HXX.out.1 hy HXX.out.2 hsy)
  have hpb : p ≤ 1048577 := Nat.le_trans (Nat.le_of_succ_le hpl) (by decide)
  have e3 := w64_nat p hpb
  have e1 := w64_pred p hpb
  have e2 := w64_prd p hpb
  unfold LiftS at HIH
  unfold dgv at HIH HLX HC3
  rw [HVE.out] at HIH
  obtain ⟨VX, hVX⟩ : ∃ V, bt 32 (co x) = V := ⟨_, rfl⟩
  have HVX := Lib.hid hVX
  rw [hVX] at HLX HC3
  clear hpb hcell hk hp hnb hd hsm hZ hpl hc h2 ih hk0 hk1 hVX hr hgl
  go_enter Tryd.func32, Tryd.ntmps32
  go_wp2_with fail
  rw [HW1.out]
  refine (HSP.out _).mono ?_
  rintro e w2 ⟨rfl, q, rfl⟩
  have HX2 := Lib.hid (show AfterH w1 (w1.drewN q) from (Ext.refl w1).drewN q)
  generalize w1.drewN q = w2 at HX2 ⊢
  obtain ⟨u, hu⟩ : ∃ u, w2.drew = u := ⟨_, rfl⟩
  have HXU := Lib.hid (show AfterH w1 u from by rw [← hu]; exact Ext.drew HX2.out)
  go_wp2_with (refine wp_region_plan (AfterH w1) [0, 1, 2, 3, 4, 5, 6, 7, 8, 9, 10, 11, 12, 13, 14, 15] (.yes 0 (.yes 1 (.yes 2 (.yes 3 (.yes 4 (.yes 5 (.yes 6 (.yes 7 (.yes 8 (.yes 9 (.two 10 (.yes 11 (.yes 12 (.yes 13 (.one 14 (.one 15 (.one 16 .done)))))) 14 (.one 10 (.yes 11 (.yes 12 (.yes 13 (.one 15 (.one 16 .done))))))))))))))))) (by kernel_rfl) (fun c a a' w e h => ⟨e ▸ h.1, h.2⟩) (by kernel_rfl) (by rw [hu]; exact HXU.out) ?_)
  rw [hu]
  clear hu
  have e5 := HE5.out
  have e7 := HE7.out
  refine plan_load rfl 30 (.tmp 4) rfl (.agg VD) (by rfl) (fun W hW => HLV.out W hW) ?_
  refine plan_yes rfl (fun K hK => ?_); go_simp; refine ⟨_, fun _ _ => rfl, hK _ ?_⟩; clear hK K
  refine plan_yes rfl (fun K hK => ?_); go_simp; refine ⟨_, fun _ _ => rfl, hK _ ?_⟩; clear hK K
  refine plan_yes rfl (fun K hK => ?_); go_simp; refine ⟨_, fun _ _ => rfl, hK _ ?_⟩; clear hK K
  refine plan_yes rfl (fun K hK => ?_); go_simp; refine ⟨_, fun _ _ => rfl, hK _ ?_⟩; clear hK K
  refine plan_yes rfl (fun K hK => ?_); go_simp; refine ⟨_, fun _ _ => rfl, hK _ ?_⟩; clear hK K
  refine plan_yes rfl (fun K hK => ?_); go_simp; refine ⟨_, fun _ _ => rfl, hK _ ?_⟩; clear hK K
  refine plan_yes rfl (fun K hK => ?_); go_simp; refine ⟨_, fun _ _ => rfl, hK _ ?_⟩; clear hK K
  refine plan_yes rfl (fun K hK => ?_); go_simp; refine ⟨_, fun _ _ => rfl, hK _ ?_⟩; clear hK K
  refine plan_yes rfl (fun K hK => ?_); go_simp; refine ⟨_, fun _ _ => rfl, hK _ ?_⟩; clear hK K
  refine plan_two rfl rfl (fun K hK => ?_) (fun K hK => ?_)
  · skip
    go_wp2_with fail
    refine (HIH.out _ (HX1.out.trans HXU.out)).mono ?_
    rintro e v4 ⟨y, ok, rfl, hy, hsy, hx4, hml⟩
    have HX4 := Lib.hid (show AfterH w1 v4 from Ext.trans HXU.out hx4)
    have HY := Lib.hid (And.intro hy hsy)
    have HMY := Lib.hid hml
    clear hy hsy hx4 hml
    obtain ⟨VY, hVY⟩ : ∃ V, bt 32 (co y) = V := ⟨_, rfl⟩
    have HVY := Lib.hid (show Dgc VY y from by rw [← hVY]; exact bt_dgc y)
    have HVYE := Lib.hid hVY
    rw [hVY]
    clear hVY
    go_wp2
    refine ⟨fun _ => HX4.out, ?_⟩
    refine plan_yes rfl (fun K hK => ?_); go_simp; refine ⟨_, fun _ _ => rfl, hK _ ?_⟩; clear hK K
    refine plan_yes rfl (fun K hK => ?_); go_simp; refine ⟨_, fun _ _ => rfl, hK _ ?_⟩; clear hK K
    refine plan_yes rfl (fun K hK => ?_); go_simp; refine ⟨_, fun _ _ => rfl, hK _ ?_⟩; clear hK K
    refine plan_one rfl (fun K hK => ?_)
    obtain ⟨gx, hgx⟩ : ∃ g, (v4).heap.size = g := ⟨_, rfl⟩
    have HGX := Lib.hid (show ((v4).alloc (.cells Z 30)).heap[gx]? = some (.cells Z 30 (0, 0)) from by rw [← hgx]; exact heap_alloc_new _ _)
    have HX5 := Lib.hid (show AfterH w1 ((v4).alloc (.cells Z 30)) from Ext.alloc HX4.out _)
    have HGB := Lib.hid (show w1.heap.size ≤ gx from by rw [← hgx]; exact Ext.size HX4.out)
    go_wp2
    refine ⟨fun _ => HX5.out, ?_⟩
    generalize (v4).alloc (.cells Z 30) = v5 at HX5 HGX ⊢
    clear hgx
    have HIY := Lib.hid HVY.out.info
    have HOY := Lib.hid HVY.out.one
    have HZY := Lib.hid (show Z.size = VY.size from by rw [HVY.out.1]; exact HZ32.out ())
    have HX6 := Lib.hid (show Ext w1 (v5.setRow gx VY) from Ext.setRow HX5.out HGB.out VY)
    have HG6 := Lib.hid (setRow_heap _ gx _ VY _ _ HGX.out)
    refine plan_one rfl (fun K hK => ?_)
    go_wp2_with (with_reducible refine wpList_store_all rfl 30 (.tmp 14) (.tmp 63) rfl gx Z VY rfl rfl HGX.out HIY.out HZY.out HOY.out ?_)
    refine ⟨fun _ => HX6.out, ?_⟩
    refine plan_one rfl (fun K hK => ?_)
    go_wp2
    refine ⟨fun h => absurd h (by decide), ?_⟩
    unfold wpPlan
    generalize v5.setRow gx VY = v6 at HX6 HG6 ⊢
    go_wp2
    obtain ⟨u6, hu6⟩ : ∃ u, v6.drew = u := ⟨_, rfl⟩
    have HXU6 := Lib.hid (show AfterH v6 u6 from by rw [← hu6]; exact (Ext.refl v6).drew)
    have LY := Lib.hid (fun (W : World) (h : AftG w gx VY W) => show (Instr.loadAt 30 (.pointer (some ⟨gx, 0, none⟩))).run Tryd.prog W = .ok (.agg VY) W from by
      have h2 := load_blk W gx y 30 (0, 0) (by rw [HVYE.out]; exact h.2)
      unfold dgv at h2
      rw [HVYE.out] at h2
      exact h2)
    have HB := Lib.hid (fun (W : World) (h : AfterH v6 W) => HC3.out W (HX1.out.trans (HX6.out.trans h)) y HY.out.1 HY.out.2)
    rw [HVYE.out] at HB
    refine wp_region_plan (AftG w gx VY) [0, 1, 2, 3, 4, 5, 6, 7] (.yes 0 (.yes 1 (.yes 2 (.yes 3 (.yes 4 (.yes 6 (.one 5 (.one 7 (.one 8 .done))))))))) (by kernel_rfl) (fun c a a' w e h => ⟨e ▸ h.1, h.2⟩) (by kernel_rfl) (by rw [hu6]; exact ⟨HX1.out.trans (HX6.out.trans HXU6.out), WBlk.ext' HG6.out HXU6.out⟩) ?_
    rw [hu6]
    clear hu6
    refine plan_yes rfl (fun K hK => ?_); go_simp; refine ⟨_, fun _ _ => rfl, hK _ ?_⟩; clear hK K
    refine plan_yes rfl (fun K hK => ?_); go_simp; refine ⟨_, fun _ _ => rfl, hK _ ?_⟩; clear hK K
    refine plan_yes rfl (fun K hK => ?_); go_simp; refine ⟨_, fun _ _ => rfl, hK _ ?_⟩; clear hK K
    refine plan_load rfl 30 (.tmp 67) rfl (.agg VX) (by rfl) (fun W hW => HLX.out W hW.1) ?_
    refine plan_load rfl 30 (.tmp 14) rfl (.agg VY) (by rfl) (fun W hW => LY.out W hW) ?_
    refine plan_yes rfl (fun K hK => ?_); go_simp; refine ⟨_, fun _ _ => rfl, hK _ ?_⟩; clear hK K
    refine plan_one rfl (fun K hK => ?_)
    go_wp2_with fail
    refine (HB.out _ HXU6.out).mono ?_
    rintro e w9 ⟨rfl, hx9⟩
    have HX9 := Lib.hid (show AfterH v6 w9 from Ext.trans HXU6.out hx9)
    clear hx9
    obtain ⟨D, hD⟩ : ∃ D, nd sha x y = D := ⟨_, rfl⟩
    have HDL := Lib.hid (show D.length = 32 ∧ Sm D from by rw [← hD]; exact ⟨sha_len _, sha_sm _⟩)
    have HDE := Lib.hid hD
    rw [hD]
    clear hD
    obtain ⟨V, hV⟩ : ∃ V, bt 32 (co D) = V := ⟨_, rfl⟩
    have HVV := Lib.hid hV
    have HV := Lib.hid (show Dgc V D from by rw [← hV]; exact bt_dgc D)
    rw [hV]
    clear hV
    have HC9 := Lib.hid (show AftG w gx VY w9 from ⟨HX1.out.trans (HX6.out.trans HX9.out), WBlk.ext' HG6.out HX9.out⟩)
    go_wp2
    refine ⟨fun _ => HC9.out, ?_⟩
    have HR9 := Lib.hid (WBlk.ext' HR1.out (Ext.trans HX6.out HX9.out))
    have HI9 := Lib.hid HV.out.info
    have HO9 := Lib.hid HV.out.one
    have HZ9 := Lib.hid (show Z.size = V.size from by rw [HV.out.1]; exact HZ32.out ())
    have HG9 := Lib.hid (setRow_heap _ (g0 + 1) _ V _ _ HR9.out)
    have HXF := Lib.hid ((HX1.out.trans (HX6.out.trans HX9.out)).setRow (g := g0 + 1) (by rw [HW0.out]; omega) V)
    refine plan_one rfl (fun K hK => ?_)
    go_wp2_with (with_reducible refine wpList_store_all rfl 30 (.tmp 8) (.tmp 70) rfl (g0 + 1) Z V rfl rfl HR9.out HI9.out HZ9.out HO9.out ?_)
    refine ⟨fun _ => (show AftG w gx VY _ from ⟨HXF.out, setRow_far (by have := HGB.out; have := HZ1.out; omega) HC9.out.2⟩), ?_⟩
    refine plan_one rfl (fun K hK => ?_)
    go_wp2
    refine ⟨fun h => absurd h (by decide), ?_⟩
    unfold wpPlan
    go_wp2
    exact ⟨rfl, .tuple #[.agg V, .bool ok], results_rt Tryd.results32 _ _ (g0 + 1) 30 V (0, 0) rfl HG9.out HI9.out, D, ok, by rw [← HVV.out]; rfl, HDL.out.1, HDL.out.2, HXF.out, by rw [HMX.out, HMY.out, ← HDE.out]; cases ok <;> rfl⟩
  · skip
    obtain ⟨gx, hgx⟩ : ∃ g, (u).heap.size = g := ⟨_, rfl⟩
    have HGX := Lib.hid (show ((u).alloc (.cells Z 30)).heap[gx]? = some (.cells Z 30 (0, 0)) from by rw [← hgx]; exact heap_alloc_new _ _)
    have HX5 := Lib.hid (show AfterH w1 ((u).alloc (.cells Z 30)) from Ext.alloc HXU.out _)
    have HGB := Lib.hid (show w1.heap.size ≤ gx from by rw [← hgx]; exact Ext.size HXU.out)
    go_wp2
    refine ⟨fun _ => HX5.out, ?_⟩
    generalize (u).alloc (.cells Z 30) = v5 at HX5 HGX ⊢
    clear hgx
    refine plan_one rfl (fun K hK => ?_)
    go_wp2_with fail
    refine (HIH.out _ (HX1.out.trans HX5.out)).mono ?_
    rintro e v4 ⟨y, ok, rfl, hy, hsy, hx4, hml⟩
    have HX4 := Lib.hid (show AfterH w1 v4 from Ext.trans HX5.out hx4)
    have HY := Lib.hid (And.intro hy hsy)
    have HMY := Lib.hid hml
    have HGX4 := Lib.hid (WBlk.ext' HGX.out hx4)
    clear hy hsy hx4 hml
    obtain ⟨VY, hVY⟩ : ∃ V, bt 32 (co y) = V := ⟨_, rfl⟩
    have HVY := Lib.hid (show Dgc VY y from by rw [← hVY]; exact bt_dgc y)
    have HVYE := Lib.hid hVY
    rw [hVY]
    clear hVY
    go_wp2
    refine ⟨fun _ => HX4.out, ?_⟩
    refine plan_yes rfl (fun K hK => ?_); go_simp; refine ⟨_, fun _ _ => rfl, hK _ ?_⟩; clear hK K
    refine plan_yes rfl (fun K hK => ?_); go_simp; refine ⟨_, fun _ _ => rfl, hK _ ?_⟩; clear hK K
    refine plan_yes rfl (fun K hK => ?_); go_simp; refine ⟨_, fun _ _ => rfl, hK _ ?_⟩; clear hK K
    have HIY := Lib.hid HVY.out.info
    have HOY := Lib.hid HVY.out.one
    have HZY := Lib.hid (show Z.size = VY.size from by rw [HVY.out.1]; exact HZ32.out ())
    have HX6 := Lib.hid (show Ext w1 (v4.setRow gx VY) from Ext.setRow HX4.out HGB.out VY)
    have HG6 := Lib.hid (setRow_heap _ gx _ VY _ _ HGX4.out)
    refine plan_one rfl (fun K hK => ?_)
    go_wp2_with (with_reducible refine wpList_store_all rfl 30 (.tmp 14) (.tmp 63) rfl gx Z VY rfl rfl HGX4.out HIY.out HZY.out HOY.out ?_)
    refine ⟨fun _ => HX6.out, ?_⟩
    refine plan_one rfl (fun K hK => ?_)
    go_wp2
    refine ⟨fun h => absurd h (by decide), ?_⟩
    unfold wpPlan
    generalize v4.setRow gx VY = v6 at HX6 HG6 ⊢
    go_wp2
    obtain ⟨u6, hu6⟩ : ∃ u, v6.drew = u := ⟨_, rfl⟩
    have HXU6 := Lib.hid (show AfterH v6 u6 from by rw [← hu6]; exact (Ext.refl v6).drew)
    have LY := Lib.hid (fun (W : World) (h : AftG w gx VY W) => show (Instr.loadAt 30 (.pointer (some ⟨gx, 0, none⟩))).run Tryd.prog W = .ok (.agg VY) W from by
      have h2 := load_blk W gx y 30 (0, 0) (by rw [HVYE.out]; exact h.2)
      unfold dgv at h2
      rw [HVYE.out] at h2
      exact h2)
    have HB := Lib.hid (fun (W : World) (h : AfterH v6 W) => HC3.out W (HX1.out.trans (HX6.out.trans h)) y HY.out.1 HY.out.2)
    rw [HVYE.out] at HB
    refine wp_region_plan (AftG w gx VY) [0, 1, 2, 3, 4, 5, 6, 7] (.yes 0 (.yes 1 (.yes 2 (.yes 3 (.yes 4 (.yes 6 (.one 5 (.one 7 (.one 8 .done))))))))) (by kernel_rfl) (fun c a a' w e h => ⟨e ▸ h.1, h.2⟩) (by kernel_rfl) (by rw [hu6]; exact ⟨HX1.out.trans (HX6.out.trans HXU6.out), WBlk.ext' HG6.out HXU6.out⟩) ?_
    rw [hu6]
    clear hu6
    refine plan_yes rfl (fun K hK => ?_); go_simp; refine ⟨_, fun _ _ => rfl, hK _ ?_⟩; clear hK K
    refine plan_yes rfl (fun K hK => ?_); go_simp; refine ⟨_, fun _ _ => rfl, hK _ ?_⟩; clear hK K
    refine plan_yes rfl (fun K hK => ?_); go_simp; refine ⟨_, fun _ _ => rfl, hK _ ?_⟩; clear hK K
    refine plan_load rfl 30 (.tmp 67) rfl (.agg VX) (by rfl) (fun W hW => HLX.out W hW.1) ?_
    refine plan_load rfl 30 (.tmp 14) rfl (.agg VY) (by rfl) (fun W hW => LY.out W hW) ?_
    refine plan_yes rfl (fun K hK => ?_); go_simp; refine ⟨_, fun _ _ => rfl, hK _ ?_⟩; clear hK K
    refine plan_one rfl (fun K hK => ?_)
    go_wp2_with fail
    refine (HB.out _ HXU6.out).mono ?_
    rintro e w9 ⟨rfl, hx9⟩
    have HX9 := Lib.hid (show AfterH v6 w9 from Ext.trans HXU6.out hx9)
    clear hx9
    obtain ⟨D, hD⟩ : ∃ D, nd sha x y = D := ⟨_, rfl⟩
    have HDL := Lib.hid (show D.length = 32 ∧ Sm D from by rw [← hD]; exact ⟨sha_len _, sha_sm _⟩)
    have HDE := Lib.hid hD
    rw [hD]
    clear hD
    obtain ⟨V, hV⟩ : ∃ V, bt 32 (co D) = V := ⟨_, rfl⟩
    have HVV := Lib.hid hV
    have HV := Lib.hid (show Dgc V D from by rw [← hV]; exact bt_dgc D)
    rw [hV]
    clear hV
    have HC9 := Lib.hid (show AftG w gx VY w9 from ⟨HX1.out.trans (HX6.out.trans HX9.out), WBlk.ext' HG6.out HX9.out⟩)
    go_wp2
    refine ⟨fun _ => HC9.out, ?_⟩
    have HR9 := Lib.hid (WBlk.ext' HR1.out (Ext.trans HX6.out HX9.out))
    have HI9 := Lib.hid HV.out.info
    have HO9 := Lib.hid HV.out.one
    have HZ9 := Lib.hid (show Z.size = V.size from by rw [HV.out.1]; exact HZ32.out ())
    have HG9 := Lib.hid (setRow_heap _ (g0 + 1) _ V _ _ HR9.out)
    have HXF := Lib.hid ((HX1.out.trans (HX6.out.trans HX9.out)).setRow (g := g0 + 1) (by rw [HW0.out]; omega) V)
    refine plan_one rfl (fun K hK => ?_)
    go_wp2_with (with_reducible refine wpList_store_all rfl 30 (.tmp 8) (.tmp 70) rfl (g0 + 1) Z V rfl rfl HR9.out HI9.out HZ9.out HO9.out ?_)
    refine ⟨fun _ => (show AftG w gx VY _ from ⟨HXF.out, setRow_far (by have := HGB.out; have := HZ1.out; omega) HC9.out.2⟩), ?_⟩
    refine plan_one rfl (fun K hK => ?_)
    go_wp2
    refine ⟨fun h => absurd h (by decide), ?_⟩
    unfold wpPlan
    go_wp2
    exact ⟨rfl, .tuple #[.agg V, .bool ok], results_rt Tryd.results32 _ _ (g0 + 1) 30 V (0, 0) rfl HG9.out HI9.out, D, ok, by rw [← HVV.out]; rfl, HDL.out.1, HDL.out.2, HXF.out, by rw [HMX.out, HMY.out, ← HDE.out]; cases ok <;> rfl⟩
end Go.Proofs.YthbfodmpoheahaaDoor

/-
  What climb of layer 11 does. Conditions: the constants of layer 10 lie where they were laid; at most 2^20 texts, a place below them.
-/
namespace Go.Proofs.YthbfodmpoheahaaDoor
open Go.RowKit
open Pol (co Sm)

theorem mk_climb (S : ShaOH) (m : Nat) : ∀ (n i : Nat) (d : List Nat) (ps : List (List Nat)) (A : Option Addr) (c : Nat) (w : World), n ≤ m → 1 ≤ n → i < n → n ≤ 1048576 → GL w → d.length = 32 → Sm d → DRd w A ps → ps.length ≤ c → ps.length ≤ 1048576 →
    Calls Tryd.prog 32 #[dgv d, .int .i64 (i : Int), .int .i64 (n : Int), .slice A ps.length c] w (LiftS d n i ps w) := by
  induction m with
  | zero => intro n i d ps A c w hm h1; omega
  | succ m ih =>
    intro n i d ps A c w hm h1 hin hnb hgl hd hsm hr hc hpl
    by_cases h2 : 2 ≤ n
    · have hk1 := spl_lt h2
      have hk0 := spl_pos n
      rcases List.eq_nil_or_concat ps with rfl | ⟨qs, x, rfl⟩
      · exact mk_climb_nil n i d A c w h2 hd hsm
      · rw [List.concat_eq_append] at hr hc hpl ⊢
        rw [List.length_append, List.length_singleton] at hc hpl ⊢
        by_cases hik : i < spl n
        · exact mk_climb_lo S n i (spl n) d qs x A c w hgl h2 hnb hd hsm hr hc hpl rfl hik (fun W h hq => ih (spl n) i d qs A c W (by omega) (by omega) hik (by omega) (hgl.ext h) hd hsm hq (by omega) (by omega))
        · exact mk_climb_hi S n i (spl n) d qs x A c w hgl h2 hin hnb hd hsm hr hc hpl rfl hik (fun W h hq => ih (n - spl n) (i - spl n) d qs A c W (by omega) (by omega) (by omega) (by omega) (hgl.ext h) hd hsm hq (by omega) (by omega))
    · obtain rfl : n = 1 := by omega
      exact mk_climb_one i d ps A c w hd hsm
end Go.Proofs.YthbfodmpoheahaaDoor

/-
  What siblings and Proof of layer 11 do. Conditions: no more than 4096 texts of 2^15 bytes; the constants of layer 10 lie where they were laid.
-/
namespace Go.Proofs.YthbfodmpoheahaaDoor
open Go.RowKit
open Pol (co Sm)

set_option maxHeartbeats 3200000 in
set_option maxRecDepth 100000 in
theorem mk_sib (S : ShaOH) (m : Nat) : ∀ (rows : List (List Nat)) (i : Nat) (A : Option Addr) (c : Nat) (w : World), rows.length ≤ m → i < rows.length → GL w → RRd w A rows → rows.length ≤ c → rows.length ≤ 4096 → (∀ i, i < rows.length → (ro rows i).length ≤ 32768) →
    Calls Tryd.prog 24 #[.slice A rows.length c, .int .i64 (i : Int)] w (DOwn (mprf sha rows i) w) := by
  induction m with
  | zero => intro rows i A c w hm hil; omega
  | succ m ih =>
    intro rows i A c w hm hil hgl hr hc hl hls
    have HGL := Lib.hid hgl
    have HR := Lib.hid hr
    by_cases h2 : 2 ≤ rows.length
    · have hk1 := spl_lt h2
      have hk0 := spl_pos rows.length
      have HSP := Lib.hid (fun W => mk_leftH rows.length W (by omega) h2)
      obtain ⟨n, hn⟩ : ∃ n, rows.length = n := ⟨_, rfl⟩
      rw [hn] at hm hil hc hl h2 hk1 hk0 HSP ⊢
      obtain ⟨k, hk⟩ : ∃ k, spl n = k := ⟨_, rfl⟩
      rw [hk] at hk1 hk0 HSP
      have HTL := Lib.hid (show (rows.take k).length = k from by rw [List.length_take]; omega)
      have HDL := Lib.hid (show (rows.drop k).length = n - k from by rw [List.length_drop]; omega)
      have htl := HTL.out
      have hdl := HDL.out
      have ht := run_to_rows A n c k (by omega)
      obtain ⟨X, hx, hxr⟩ := run_rest_rows A n c k (by omega) hc
      have d1 : decide ((n : Int) = 1) = false := decide_eq_false (by omega)
      have n1 : ¬ (n : Int) = 1 := by omega
      have n2 : ¬ n = 1 := by omega
      by_cases hik : i < k
      · skip
        have HP := Lib.hid (fun W (h : Ext w W) => show Calls Tryd.prog 24 #[.slice A k c, .int .i64 (i : Int)] W (DOwn (mprf sha (rows.take k) i) W) from by
          have h1 := ih (rows.take k) i A c W (by omega) (by omega) (HGL.out.ext h) ((HR.out.ext h).take k) (by omega) (by omega) (fun j hj => by rw [ro_take rows k j (by omega)]; exact hls j (by omega))
          rw [HTL.out] at h1
          exact h1)
        have HRT := Lib.hid (fun W (h : Ext w W) => show Calls Tryd.prog 12 #[.slice X (n - k) (c - k)] W (Tells (dgv (mroot sha (rows.drop k))) W) from by
          have h1 := mk_root S 4096 (rows.drop k) X (c - k) W (by omega) (HGL.out.ext h) (hxr W rows (HR.out.ext h) hn) (by omega) (by omega) (fun j hj => by rw [ro_drop]; exact hls (k + j) (by omega))
          rw [HDL.out] at h1
          exact h1)
        have HMP := Lib.hid (show mprf sha rows i = mprf sha (rows.take k) i ++ [mroot sha (rows.drop k)] from by rw [mprf_lo sha (by omega) (by rw [hn, hk]; exact hik), hn, hk])
        have HPL := Lib.hid (show (mprf sha (rows.take k) i).length ≤ 4096 from by rw [mprf_len sha 4096 _ _ (by omega)]; have := dep_le 4096 (rows.take k).length i (by omega); omega)
        have HRL := Lib.hid (mroot_32 (rows.drop k))
        have HRS := Lib.hid (mroot_sm (rows.drop k))
        obtain ⟨P1, hP1⟩ : ∃ P, mprf sha (rows.take k) i = P := ⟨_, rfl⟩
        obtain ⟨D2, hD2⟩ : ∃ D, mroot sha (rows.drop k) = D := ⟨_, rfl⟩
        have d3 : decide ((i : Int) < (k : Int)) = true := decide_eq_true (by omega)
        have n5 : (i : Int) < (k : Int) := by omega
        rw [hP1] at HP HMP HPL
        rw [hD2] at HRT HMP HRL HRS
        rw [HMP.out]
        unfold dgv at HRT
        have HLD := Lib.hid (fun W => one_drd W D2 HRL.out HRS.out)
        have HVS := Lib.hid (bt_size 32 (co D2))
        obtain ⟨V2, hV2⟩ : ∃ V, bt 32 (co D2) = V := ⟨_, rfl⟩
        rw [hV2] at HRT HLD HVS
        obtain ⟨p, hp⟩ : ∃ p, P1.length = p := ⟨_, rfl⟩
        have HPN := Lib.hid hp
        have HLP := Lib.hid (show P1.length + [D2].length ≤ 1048576 from by have := HPL.out; simp; omega)
        unfold DOwn at HP
        clear hm hc hl hls hgl hr hk hxr hik HMP HPL hP1 hD2 hV2 hp hil
        go_enter Tryd.func24, Tryd.ntmps24
        go_wp2_with fail
        refine (HSP.out _).mono ?_
        rintro e w2 ⟨rfl, q, rfl⟩
        have HX1 := Lib.hid ((Ext.refl w).drewN q)
        generalize w.drewN q = w1 at HX1 ⊢
        go_wp2
        refine wp_region_plan (AfterH w1) [0, 1, 2, 3, 4, 5, 6, 7, 8, 9] (.yes 0 (.yes 1 (.yes 2 (.yes 3 (.yes 5 (.yes 6 (.yes 7 (.one 4 (.one 8 (.one 9 (.one 10 (.one 11 .done)))))))))))) (by kernel_rfl) (fun c a a' w e h => ⟨e ▸ h.1, h.2⟩) (by kernel_rfl) ((Ext.refl w1).drew) ?_
        refine plan_yes rfl (fun K hK => ?_); go_simp; refine ⟨_, fun _ _ => rfl, hK _ ?_⟩; clear hK K
        refine plan_yes rfl (fun K hK => ?_); go_simp; refine ⟨_, fun _ _ => rfl, hK _ ?_⟩; clear hK K
        refine plan_yes rfl (fun K hK => ?_); go_simp; refine ⟨_, fun _ _ => rfl, hK _ ?_⟩; clear hK K
        refine plan_yes rfl (fun K hK => ?_); go_simp; refine ⟨_, fun _ _ => rfl, hK _ ?_⟩; clear hK K
        refine plan_yes rfl (fun K hK => ?_); go_simp; refine ⟨_, fun _ _ => rfl, hK _ ?_⟩; clear hK K
        refine plan_yes rfl (fun K hK => ?_); go_simp; refine ⟨_, fun _ _ => rfl, hK _ ?_⟩; clear hK K
        refine plan_yes rfl (fun K hK => ?_); go_simp; refine ⟨_, fun _ _ => rfl, hK _ ?_⟩; clear hK K
        refine plan_one rfl (fun K hK => ?_)
        go_wp2_with fail
        refine (HP.out _ (HX1.out.trans ((Ext.refl w1).drew))).mono ?_
        rintro e v4 ⟨p4, rfl, hm4, hx4⟩
        obtain ⟨B4, c4, rfl, hc4, hr4⟩ := hm4.slice
        rw [HPN.out]
        have HX4 := Lib.hid (show AfterH w1 v4 from Ext.trans ((Ext.refl w1).drew) hx4)
        have HM4 := Lib.hid (hm4.down (base' := w.heap.size) (Ext.size (HX1.out.trans ((Ext.refl w1).drew))))
        rw [HPN.out] at HM4
        clear hm4 hx4 hc4 hr4
        go_wp2
        refine ⟨fun _ => HX4.out, ?_⟩
        refine plan_one rfl (fun K hK => ?_)
        go_wp2_with fail
        refine (HRT.out _ (HX1.out.trans HX4.out)).mono ?_
        rintro e v5 ⟨rfl, hx5⟩
        have HX5 := Lib.hid (show AfterH w1 v5 from Ext.trans HX4.out hx5)
        have HM5 := Lib.hid (HM4.out.ext hx5)
        clear hx5
        go_wp2
        refine ⟨fun _ => HX5.out, ?_⟩
        refine plan_one rfl (fun K hK => ?_)
        have HB := Lib.hid (HLD.out v5)
        have HX6 := Lib.hid (show AfterH w1 (World.alloc v5 (.cells V2 30)) from Ext.alloc HX5.out _)
        have HM6 := Lib.hid (HM5.out.ext ((Ext.refl _).alloc (.cells V2 30)))
        go_wp2_with (with_reducible refine wpList_build_dig rfl (.tmp 23) rfl V2 rfl HVS.out ?_)
        refine ⟨fun _ => HX6.out, ?_⟩
        obtain ⟨gx, hgx⟩ : ∃ g, (v5).heap.size = g := ⟨_, rfl⟩
        rw [hgx] at HB ⊢
        generalize World.alloc v5 _ = v6 at HX6 HB HM6 ⊢
        clear hgx
        have HS7 := Lib.hid (show w.heap.size ≤ (v6).heap.size from Ext.size (HX1.out.trans HX6.out))
        have HOB := Lib.hid (fun k e => (HM6.out.block k e).1)
        refine plan_one rfl (fun K hK => ?_)
        go_wp2_with (at_builtin; refine wpList_append_drd rfl (.tmp 19) (.tmp 24) rfl w.heap.size _ P1 [D2] rfl HM6.out (some ⟨gx, 0, none⟩) 1 1 rfl rfl HB.out HLP.out HS7.out ?_; intro v' w7 hm7 hg7 hb7; have HM7 := Lib.hid hm7; have HX7 := Lib.hid ((HX1.out.trans HX6.out).more hg7 (fun k e => HOB.out k e)); clear hm7 hg7 hb7)
        refine ⟨fun h => absurd h (by decide), ?_⟩
        refine plan_one rfl (fun K hK => ?_)
        go_wp2
        refine ⟨fun h => absurd h (by decide), ?_⟩
        unfold wpPlan
        go_wp2
        go_ret
        exact ⟨_, rfl, HM7.out, HX7.out⟩
      · skip
        obtain ⟨j, hj⟩ : ∃ j, i - k = j := ⟨_, rfl⟩
        have e1 : (i : Int) - (k : Int) = (j : Int) := by omega
        have e2 : IntKind.i64.wrap (j : Int) = (j : Int) := by rw [IntKind.wrap_i64]; omega
        have HP := Lib.hid (fun W (h : Ext w W) => show Calls Tryd.prog 24 #[.slice X (n - k) (c - k), .int .i64 (j : Int)] W (DOwn (mprf sha (rows.drop k) j) W) from by
          have h1 := ih (rows.drop k) j X (c - k) W (by omega) (by omega) (HGL.out.ext h) (hxr W rows (HR.out.ext h) hn) (by omega) (by omega) (fun j hj => by rw [ro_drop]; exact hls (k + j) (by omega))
          rw [HDL.out] at h1
          exact h1)
        have HRT := Lib.hid (fun W (h : Ext w W) => show Calls Tryd.prog 12 #[.slice A k c] W (Tells (dgv (mroot sha (rows.take k))) W) from by
          have h1 := mk_root S 4096 (rows.take k) A c W (by omega) (HGL.out.ext h) ((HR.out.ext h).take k) (by omega) (by omega) (fun j hj => by rw [ro_take rows k j (by omega)]; exact hls j (by omega))
          rw [HTL.out] at h1
          exact h1)
        have HMP := Lib.hid (show mprf sha rows i = mprf sha (rows.drop k) j ++ [mroot sha (rows.take k)] from by rw [mprf_hi sha (by omega) (by rw [hn, hk]; exact hik), hn, hk, hj])
        have HPL := Lib.hid (show (mprf sha (rows.drop k) j).length ≤ 4096 from by rw [mprf_len sha 4096 _ _ (by omega)]; have := dep_le 4096 (rows.drop k).length j (by omega); omega)
        have HRL := Lib.hid (mroot_32 (rows.take k))
        have HRS := Lib.hid (mroot_sm (rows.take k))
        obtain ⟨P1, hP1⟩ : ∃ P, mprf sha (rows.drop k) j = P := ⟨_, rfl⟩
        obtain ⟨D2, hD2⟩ : ∃ D, mroot sha (rows.take k) = D := ⟨_, rfl⟩
        have d3 : decide ((i : Int) < (k : Int)) = false := decide_eq_false (by omega)
        have n5 : ¬ (i : Int) < (k : Int) := by omega
        rw [hP1] at HP HMP HPL
        rw [hD2] at HRT HMP HRL HRS
        rw [HMP.out]
        unfold dgv at HRT
        have HLD := Lib.hid (fun W => one_drd W D2 HRL.out HRS.out)
        have HVS := Lib.hid (bt_size 32 (co D2))
        obtain ⟨V2, hV2⟩ : ∃ V, bt 32 (co D2) = V := ⟨_, rfl⟩
        rw [hV2] at HRT HLD HVS
        obtain ⟨p, hp⟩ : ∃ p, P1.length = p := ⟨_, rfl⟩
        have HPN := Lib.hid hp
        have HLP := Lib.hid (show P1.length + [D2].length ≤ 1048576 from by have := HPL.out; simp; omega)
        unfold DOwn at HP
        clear hm hc hl hls hgl hr hk hxr hik HMP HPL hP1 hD2 hV2 hp hil hj
        go_enter Tryd.func24, Tryd.ntmps24
        go_wp2_with fail
        refine (HSP.out _).mono ?_
        rintro e w2 ⟨rfl, q, rfl⟩
        have HX1 := Lib.hid ((Ext.refl w).drewN q)
        generalize w.drewN q = w1 at HX1 ⊢
        go_wp2
        refine wp_region_plan (AfterH w1) [0, 1, 2, 3, 4, 5, 6, 7, 8, 9, 10, 11] (.yes 0 (.yes 1 (.yes 2 (.yes 3 (.yes 4 (.yes 5 (.yes 7 (.yes 8 (.yes 9 (.one 6 (.one 10 (.one 11 (.one 12 (.one 13 .done)))))))))))))) (by kernel_rfl) (fun c a a' w e h => ⟨e ▸ h.1, h.2⟩) (by kernel_rfl) ((Ext.refl w1).drew) ?_
        refine plan_yes rfl (fun K hK => ?_); go_simp; refine ⟨_, fun _ _ => rfl, hK _ ?_⟩; clear hK K
        refine plan_yes rfl (fun K hK => ?_); go_simp; refine ⟨_, fun _ _ => rfl, hK _ ?_⟩; clear hK K
        refine plan_yes rfl (fun K hK => ?_); go_simp; refine ⟨_, fun _ _ => rfl, hK _ ?_⟩; clear hK K
        refine plan_yes rfl (fun K hK => ?_); go_simp; refine ⟨_, fun _ _ => rfl, hK _ ?_⟩; clear hK K
        refine plan_yes rfl (fun K hK => ?_); go_simp; refine ⟨_, fun _ _ => rfl, hK _ ?_⟩; clear hK K
        refine plan_yes rfl (fun K hK => ?_); go_simp; refine ⟨_, fun _ _ => rfl, hK _ ?_⟩; clear hK K
        refine plan_yes rfl (fun K hK => ?_); go_simp; refine ⟨_, fun _ _ => rfl, hK _ ?_⟩; clear hK K
        refine plan_yes rfl (fun K hK => ?_); go_simp; refine ⟨_, fun _ _ => rfl, hK _ ?_⟩; clear hK K
        refine plan_yes rfl (fun K hK => ?_); go_simp; refine ⟨_, fun _ _ => rfl, hK _ ?_⟩; clear hK K
        refine plan_one rfl (fun K hK => ?_)
        go_wp2_with fail
        refine (HP.out _ (HX1.out.trans ((Ext.refl w1).drew))).mono ?_
        rintro e v4 ⟨p4, rfl, hm4, hx4⟩
        obtain ⟨B4, c4, rfl, hc4, hr4⟩ := hm4.slice
        rw [HPN.out]
        have HX4 := Lib.hid (show AfterH w1 v4 from Ext.trans ((Ext.refl w1).drew) hx4)
        have HM4 := Lib.hid (hm4.down (base' := w.heap.size) (Ext.size (HX1.out.trans ((Ext.refl w1).drew))))
        rw [HPN.out] at HM4
        clear hm4 hx4 hc4 hr4
        go_wp2
        refine ⟨fun _ => HX4.out, ?_⟩
        refine plan_one rfl (fun K hK => ?_)
        go_wp2_with fail
        refine (HRT.out _ (HX1.out.trans HX4.out)).mono ?_
        rintro e v5 ⟨rfl, hx5⟩
        have HX5 := Lib.hid (show AfterH w1 v5 from Ext.trans HX4.out hx5)
        have HM5 := Lib.hid (HM4.out.ext hx5)
        clear hx5
        go_wp2
        refine ⟨fun _ => HX5.out, ?_⟩
        refine plan_one rfl (fun K hK => ?_)
        have HB := Lib.hid (HLD.out v5)
        have HX6 := Lib.hid (show AfterH w1 (World.alloc v5 (.cells V2 30)) from Ext.alloc HX5.out _)
        have HM6 := Lib.hid (HM5.out.ext ((Ext.refl _).alloc (.cells V2 30)))
        go_wp2_with (with_reducible refine wpList_build_dig rfl (.tmp 36) rfl V2 rfl HVS.out ?_)
        refine ⟨fun _ => HX6.out, ?_⟩
        obtain ⟨gx, hgx⟩ : ∃ g, (v5).heap.size = g := ⟨_, rfl⟩
        rw [hgx] at HB ⊢
        generalize World.alloc v5 _ = v6 at HX6 HB HM6 ⊢
        clear hgx
        have HS7 := Lib.hid (show w.heap.size ≤ (v6).heap.size from Ext.size (HX1.out.trans HX6.out))
        have HOB := Lib.hid (fun k e => (HM6.out.block k e).1)
        refine plan_one rfl (fun K hK => ?_)
        go_wp2_with (at_builtin; refine wpList_append_drd rfl (.tmp 32) (.tmp 37) rfl w.heap.size _ P1 [D2] rfl HM6.out (some ⟨gx, 0, none⟩) 1 1 rfl rfl HB.out HLP.out HS7.out ?_; intro v' w7 hm7 hg7 hb7; have HM7 := Lib.hid hm7; have HX7 := Lib.hid ((HX1.out.trans HX6.out).more hg7 (fun k e => HOB.out k e)); clear hm7 hg7 hb7)
        refine ⟨fun h => absurd h (by decide), ?_⟩
        refine plan_one rfl (fun K hK => ?_)
        go_wp2
        refine ⟨fun h => absurd h (by decide), ?_⟩
        unfold wpPlan
        go_wp2
        go_ret
        exact ⟨_, rfl, HM7.out, HX7.out⟩
    · have hn1 : rows.length = 1 := by omega
      rw [mprf_one sha (by omega), hn1]
      clear hr HR hgl HGL
      go_enter Tryd.func24, Tryd.ntmps24
      go_wp2
      go_ret
      exact ⟨_, rfl, DMine.nil _ _, Ext.refl _⟩
end Go.Proofs.YthbfodmpoheahaaDoor

/-
  What Proof and Shows of layer 11 do. Conditions: the constants of layer 10 lie where they were laid; the sizes named.
-/
namespace Go.Proofs.YthbfodmpoheahaaDoor
open Go.RowKit
open Pol (co Sm)

set_option maxHeartbeats 800000 in
theorem mk_proof_out (n c : Nat) (i : Int) (A : Option Addr) (w : World) (h : i < 0 ∨ (n : Int) ≤ i) :
    Calls Tryd.prog 11 #[.slice A n c, .int .i64 i] w (fun e w' => e = .returned (.tuple #[.slice none 0 0, .int .i64 5]) ∧ w = w') := by
  by_cases h1 : i < 0
  · have d1 : decide (i < 0) = true := decide_eq_true h1
    clear h
    go_enter Tryd.func11, Tryd.ntmps11
    go_wp2
    go_ret2
    exact ⟨rfl, rfl⟩
  · have d1 : decide (i < 0) = false := decide_eq_false h1
    have h2 : (n : Int) ≤ i := by omega
    have d2 : decide (i ≥ (n : Int)) = true := decide_eq_true h2
    clear h
    go_enter Tryd.func11, Tryd.ntmps11
    go_wp2
    go_ret2
    exact ⟨rfl, rfl⟩
set_option maxHeartbeats 800000 in
theorem mk_proof (S : ShaOH) (rows : List (List Nat)) (i : Nat) (A : Option Addr) (c : Nat) (w : World) (hil : i < rows.length) (hgl : GL w) (hr : RRd w A rows) (hc : rows.length ≤ c) (hl : rows.length ≤ 4096) (hls : ∀ i, i < rows.length → (ro rows i).length ≤ 32768) :
    Calls Tryd.prog 11 #[.slice A rows.length c, .int .i64 (i : Int)] w (ProofS rows i w) := by
  have HC := Lib.hid (fun W (h : Ext w W) => mk_sib S 4096 rows i A c W hl hil (hgl.ext h) (hr.ext h) hc hl hls)
  obtain ⟨n, hn⟩ : ∃ n, rows.length = n := ⟨_, rfl⟩
  rw [hn] at hil HC ⊢
  unfold DOwn at HC
  unfold ProofS
  have d1 : decide ((i : Int) < 0) = false := decide_eq_false (by omega)
  have n1 : ¬ (i : Int) < 0 := by omega
  have d2 : decide ((i : Int) ≥ (n : Int)) = false := decide_eq_false (by omega)
  have n2 : ¬ (n : Int) ≤ (i : Int) := by omega
  clear hgl hr hc hl hls hn hil
  go_enter Tryd.func11, Tryd.ntmps11
  go_wp2_with fail
  refine (HC.out _ (Ext.refl _)).mono ?_
  rintro e w2 ⟨v, rfl, hm, hx⟩
  have HM := Lib.hid hm
  have HX := Lib.hid hx
  obtain ⟨B, k, rfl, _, _⟩ := hm.slice
  clear hm hx
  go_wp2
  go_ret2
  exact ⟨_, rfl, HM.out, HX.out⟩
set_option maxHeartbeats 1600000 in
set_option maxRecDepth 100000 in
theorem mk_shows_bad (d t : List Nat) (i n : Int) (ps : List (List Nat)) (A B : Option Addr) (c cb : Nat) (w : World) (h : i < 0 ∨ n ≤ i ∨ 1048576 < n) :
    Calls Tryd.prog 16 #[dgv d, .slice A t.length c, .int .i64 i, .int .i64 n, .slice B ps.length cb] w (Tells (.bool (shw d t i n ps)) w) := by
  have HV := Lib.hid (shw_bad (d := d) (t := t) (ps := ps) h)
  rw [HV.out]
  unfold dgv
  obtain ⟨VD, hVD⟩ : ∃ V, bt 32 (co d) = V := ⟨_, rfl⟩
  have HX := Lib.hid (show Ext w (w.alloc (.cells VD 30)) from (Ext.refl w).alloc _)
  rw [hVD]
  clear hVD
  by_cases h1 : i < 0
  · have d1 : decide (i < 0) = true := decide_eq_true h1
    clear h
    go_enter Tryd.func16, Tryd.ntmps16
    go_wp2
    go_ret
    exact ⟨rfl, HX.out⟩
  · have d1 : decide (i < 0) = false := decide_eq_false h1
    by_cases h2 : n ≤ i
    · have d2 : decide (i ≥ n) = true := decide_eq_true h2
      clear h
      go_enter Tryd.func16, Tryd.ntmps16
      go_wp2
      go_ret
      exact ⟨rfl, HX.out⟩
    · have d2 : decide (i ≥ n) = false := decide_eq_false h2
      have h3 : n > 1048576 := by omega
      have d3 : decide (n > 1048576) = true := decide_eq_true h3
      clear h
      go_enter Tryd.func16, Tryd.ntmps16
      go_wp2
      go_ret
      exact ⟨rfl, HX.out⟩
set_option maxHeartbeats 1600000 in
set_option maxRecDepth 100000 in
theorem mk_shows_good (S : ShaOH) (d t : List Nat) (i n : Nat) (ps : List (List Nat)) (A B : Option Addr) (c cb : Nat) (w : World) (hgl : GL w) (hin : i < n) (hnb : n ≤ 1048576) (hd : d.length = 32) (hsd : Sm d) (hr : Rd w A t) (hc : t.length ≤ c) (hl : t.length ≤ 65535) (hp : DRd w B ps) (hcb : ps.length ≤ cb) (hpb : ps.length ≤ 1048576) :
    Calls Tryd.prog 16 #[dgv d, .slice A t.length c, .int .i64 (i : Int), .int .i64 (n : Int), .slice B ps.length cb] w (Tells (.bool (shw d t (i : Int) (n : Int) ps)) w) := by
  have HGL := Lib.hid hgl
  have HR := Lib.hid hr
  have HP := Lib.hid hp
  have HLF := Lib.hid (fun W (hx : Ext w W) => show Calls Tryd.prog 25 #[.slice A t.length c] W (Tells (dgv (lf sha t)) W) from by
    have h := HR.out.ext hx
    exact mk_leaf S t A c W (HGL.out.ext hx) h hc hl)
  have HLI := Lib.hid (fun W (hx : Ext w W) => show Calls Tryd.prog 32 #[dgv (lf sha t), .int .i64 (i : Int), .int .i64 (n : Int), .slice B ps.length cb] W (LiftS (lf sha t) n i ps W) from by
    have h := HP.out.ext hx
    exact mk_climb S n n i (lf sha t) ps B cb W (Nat.le_refl _) (by omega) hin hnb (HGL.out.ext hx) (sha_len _) (sha_sm _) h hcb hpb)
  have HSN := Lib.hid (fun (h : mlift sha (lf sha t) n i ps = none) => shw_not (d := d) h)
  have HSI := Lib.hid (fun x (h : mlift sha (lf sha t) n i ps = some x) => shw_is (d := d) hin hnb h)
  have HD := Lib.hid (And.intro hd hsd)
  have HVD := Lib.hid (bt_dgc d)
  obtain ⟨g0, hg0⟩ : ∃ g, w.heap.size = g := ⟨_, rfl⟩
  have hz := zero_digest.1
  have HZ32 := Lib.hid (fun (_ : Unit) => show (bt 32 fun _ => 0).size = 32 from bt_size _ _)
  obtain ⟨Z, hZ⟩ : ∃ Z, (bt 32 fun _ => 0) = Z := ⟨_, rfl⟩
  rw [hZ] at hz HZ32
  unfold LiftS at HLI
  unfold dgv at HLF HLI ⊢
  obtain ⟨VD, hVD⟩ : ∃ V, bt 32 (co d) = V := ⟨_, rfl⟩
  obtain ⟨VL, hVL⟩ : ∃ V, bt 32 (co (lf sha t)) = V := ⟨_, rfl⟩
  obtain ⟨T, hT⟩ : ∃ T, t.length = T := ⟨_, rfl⟩
  obtain ⟨p, hpp⟩ : ∃ p, ps.length = p := ⟨_, rfl⟩
  rw [hVD] at HVD ⊢
  rw [hVL] at HLF HLI
  rw [hT] at HLF ⊢
  rw [hpp] at HLI ⊢
  obtain ⟨w1, hw1⟩ : ∃ q, w.alloc (.cells VD 30) = q := ⟨_, rfl⟩
  have HW1 := Lib.hid hw1
  have HX1 := Lib.hid (show Ext w w1 from by rw [← hw1]; exact (Ext.refl w).alloc _)
  have HR0 := Lib.hid (show w1.heap[g0]? = some (.cells VD 30 (0, 0)) from by rw [← hw1, ← hg0]; exact heap_alloc_new w _)
  have HID := Lib.hid HVD.out.info
  have d1 : decide ((i : Int) < 0) = false := decide_eq_false (by omega)
  have n1 : ¬ (i : Int) < 0 := by omega
  have d2 : decide ((i : Int) ≥ (n : Int)) = false := decide_eq_false (by omega)
  have n2 : ¬ (n : Int) ≤ (i : Int) := by omega
  have d3 : decide ((n : Int) > 1048576) = false := decide_eq_false (by omega)
  have n3 : ¬ 1048576 < (n : Int) := by omega
  clear hr hp hw1 hZ hT hpp hVD hVL hd hsd hl hpb hcb hin hnb hgl hc
  go_enter Tryd.func16, Tryd.ntmps16
  go_wp2_with fail
  rw [HW1.out]
  refine (HLF.out _ HX1.out).mono ?_
  rintro e w2 ⟨rfl, hx2⟩
  have HX2 := Lib.hid hx2
  clear hx2
  go_wp2_with fail
  refine (HLI.out _ (HX1.out.trans HX2.out)).mono ?_
  rintro e w3 ⟨x, ok, rfl, hx, hsx, hx3, hml⟩
  have HX3 := Lib.hid (Ext.trans HX2.out hx3)
  have HXX := Lib.hid (And.intro hx hsx)
  have HML := Lib.hid hml
  have HVX := Lib.hid (bt_dgc x)
  obtain ⟨VX, hVX⟩ : ∃ V, bt 32 (co x) = V := ⟨_, rfl⟩
  rw [hVX] at HVX ⊢
  obtain ⟨gx, hgx⟩ : ∃ g, w3.heap.size = g := ⟨_, rfl⟩
  have HGX := Lib.hid (show (w3.alloc (.cells Z 30)).heap[gx]? = some (.cells Z 30 (0, 0)) from by rw [← hgx]; exact heap_alloc_new _ _)
  have HX4 := Lib.hid (show Ext w1 (w3.alloc (.cells Z 30)) from Ext.alloc HX3.out _)
  have HGB := Lib.hid (show w1.heap.size ≤ gx from by rw [← hgx]; exact Ext.size HX3.out)
  have HI := Lib.hid HVX.out.info
  have HO := Lib.hid HVX.out.one
  have HZZ := Lib.hid (show Z.size = VX.size from by rw [HVX.out.1]; exact HZ32.out ())
  have HX5 := Lib.hid (show Ext w1 ((w3.alloc (.cells Z 30)).setRow gx VX) from Ext.setRow HX4.out HGB.out VX)
  have HG5 := Lib.hid (setRow_heap _ gx _ VX _ _ HGX.out)
  have HG0 := Lib.hid (WBlk.ext' HR0.out HX5.out)
  have HEQ := Lib.hid (fun W => run_eq_dgc HVX.out HVD.out HXX.out.1 HD.out.1 HXX.out.2 HD.out.2 W)
  clear hx hsx hx3 hml hVX
  cases ok with
  | false =>
    have HS := Lib.hid (HSN.out HML.out)
    go_wp2_with (with_reducible refine wpList_store_all rfl 30 (.tmp 11) (.tmp 31) rfl gx Z VX rfl rfl HGX.out HI.out HZZ.out HO.out ?_)
    go_ret
    exact ⟨by rw [HS.out]; rfl, HX1.out.trans HX5.out⟩
  | true =>
    have HS := Lib.hid (HSI.out x HML.out)
    have he := HEQ.out
    go_wp2_with (first | (with_reducible refine wpList_store_all rfl 30 (.tmp 11) (.tmp 31) rfl gx Z VX rfl rfl HGX.out HI.out HZZ.out HO.out ?_) | (refine wpList_load_row_g (by rfl) 30 (.tmp 11) rfl gx rfl 30 VX (0, 0) _ HG5.out Tryd.underlying30 rfl HI.out ?_) | (refine wpList_load_row_g (by rfl) 30 (.tmp 5) rfl g0 rfl 30 VD (0, 0) _ HG0.out Tryd.underlying30 rfl HID.out ?_) | (refine wpIf_load_row (by rfl) 30 (.tmp 11) rfl gx rfl 30 VX (0, 0) _ HG5.out Tryd.underlying30 rfl HI.out ?_) | (refine wpIf_load_row (by rfl) 30 (.tmp 5) rfl g0 rfl 30 VD (0, 0) _ HG0.out Tryd.underlying30 rfl HID.out ?_))
    go_ret
    exact ⟨by rw [HS.out]; rfl, HX1.out.trans HX5.out⟩
end Go.Proofs.YthbfodmpoheahaaDoor

/-
  What layer 11's own functions do, as one statement, but for Grow. Conditions: the constants of layer 10 lie where they were laid.
-/
namespace Go.Proofs.YthbfodmpoheahaaDoor
open Go.RowKit
open Pol (co Sm)

theorem merkleSaid : MerkleSaid where
  root rows A c w hg hr hc hl hls := mk_root shaOH 4096 rows A c w hl hg hr hc hl hls
  prf rows i A c w hi hg hr hc hl hls := mk_proof shaOH rows i A c w hi hg hr hc hl hls
  prx n c i A w h := (mk_proof_out n c i A w h).mono fun _ _ h => ⟨h.1, h.2 ▸ Ext.refl _⟩
  shows d t i n ps A B c cb w hg hd hsd hr hc hl hp hcb hpl := by
    by_cases h : i < 0 ∨ n ≤ i ∨ 1048576 < n
    · exact mk_shows_bad d t i n ps A B c cb w h
    · obtain ⟨j, rfl⟩ : ∃ j : Nat, i = (j : Int) := ⟨i.toNat, by omega⟩
      obtain ⟨m, rfl⟩ : ∃ m : Nat, n = (m : Int) := ⟨n.toNat, by omega⟩
      exact mk_shows_good shaOH d t j m ps A B c cb w hg (by omega) (by omega) hd hsd hr hc (by omega) hp hcb (by omega)
end Go.Proofs.YthbfodmpoheahaaDoor

/-
  What the listed variables of layer 10 are in memory. Conditions: none.
-/
namespace Go.Proofs.YthbfodmpoheahaaDoor
open Go.RowKit Go.ChangeShapes Go.WideShapes Go.ChangeAt
open Pol (co Sm)

def laid10 : List (String × DataW Unit) := [("shroud/sha.start", Rows.laid_shroud_sha_start), ("shroud/sha.constants", Rows.laid_shroud_sha_constants)]
theorem dt_of_trod {H : Type} {enc : TypeId × Value → H} {W : World} {base : Nat} {sp : Nat → Bool} {held : Bool} {fuel : Nat} {t e : TypeId} {n : Nat} {cs : Array Value} {l : List Nat} {p : List MemPlace}
    (ht : Tryd.prog.underlying t = some (.array n e)) (he : Tryd.prog.underlying e = some (.int .u32)) (hc : Tryd.prog.cellsOf e = 1) (hn : Tryd.prog.cellsOf t = n) (hl : l.length = n)
    (h : DataW.trod enc Tryd.prog W base sp held fuel t cs.toList = some (.agg (l.map fun x : Nat => .lit (.int .u32 ((x : Nat) : Int))), p)) : cs = dt n (co l) := by
  obtain ⟨xs, m1, rfl, hx1, hlen, hlx, hel⟩ := DataW.trod_array ht h
  injection hx1 with hx1 _
  injection hx1 with hx1
  rw [hn] at hlen
  have hsz : cs.size = n := by simpa using hlen
  apply Array.ext
  · rw [dt_size, hsz]
  · intro i h1 h2
    have hi : i < n := by omega
    have he' := hel i hi
    rw [hc, Nat.mul_one] at he'
    have e1 : (cs.toList.drop i).take 1 = [cs[i]] := by
      rw [List.drop_eq_getElem_cons (by simpa using h1)]
      simp
    rw [e1, List.getElem?_eq_getElem (by omega)] at he'
    obtain ⟨k, ek, ex, _⟩ := DataW.trod_int he he'
    have hm : (l.map fun x : Nat => DataW.lit (H := H) (.int .u32 ((x : Nat) : Int)))[i]? = (xs.map (·.1))[i]? := by rw [hx1]
    rw [List.getElem?_map, List.getElem?_map, List.getElem?_eq_getElem (by omega), List.getElem?_eq_getElem (by omega)] at hm
    simp only [Option.map_some, ex] at hm
    injection hm with hm
    injection hm with hm
    injection hm with _ hm
    injection ek with ek
    have hd := dt_at n (co l) i hi
    rw [Array.getElem?_eq_getElem h2] at hd
    injection hd with hd
    rw [ek, hd, ← hm]
    unfold co
    rw [List.getElem?_eq_getElem (by omega)]
    rfl
theorem start_is : (Rows.laid_shroud_sha_start : DataW Unit) = .agg (HH.map fun x : Nat => .lit (.int .u32 ((x : Nat) : Int))) := by rw [HH_is]; rfl
set_option maxRecDepth 100000 in
theorem constants_is : (Rows.laid_shroud_sha_constants : DataW Unit) = .agg (KK.map fun x : Nat => .lit (.int .u32 ((x : Nat) : Int))) := by rw [KK_is]; rfl
theorem row_of_cell {P : Program} {W : World} {g : Nat} {n : String} {cs : Array Value} (hg : P.globalNamed n = some g) (h : W.var? P n = some cs) (hk : ∃ c t, W.heap[g]? = some (.cells c t (0, 0))) : ∃ t, W.heap[g]? = some (.cells cs t (0, 0)) := by
  obtain ⟨c, t, hc⟩ := hk
  simp only [World.var?, hg, Option.bind_some, hc] at h
  injection h with h
  subst h
  exact ⟨t, hc⟩
theorem gl_of_laid {W : World} (h : laidMetH Tryd.prog laid10 W) : GL W := by
  rw [MakeChecks.laidMetH_plain _ _ _ (by kernel_rfl)] at h
  obtain ⟨ps, ⟨g0, t0, cs0, f0, p0, q0, hg0, ht0, hv0, hd0, ⟨g1, t1, cs1, f1, p1, q1, hg1, ht1, hv1, hd1, _, hq0⟩, hps⟩, _, hall⟩ := h
  obtain rfl := Option.some.inj ((show Tryd.prog.globalNamed "shroud/sha.start" = some 0 by kernel_rfl).symm.trans hg0)
  obtain rfl := Option.some.inj ((show Tryd.prog.globalNamed "shroud/sha.constants" = some 3 by kernel_rfl).symm.trans hg1)
  obtain rfl := Option.some.inj ((show (Tryd.prog.globals[0]?).map (·.type) = some 60 by kernel_rfl).symm.trans ht0)
  obtain rfl := Option.some.inj ((show (Tryd.prog.globals[3]?).map (·.type) = some 76 by kernel_rfl).symm.trans ht1)
  rw [start_is] at hd0
  rw [constants_is] at hd1
  have e0 := dt_of_trod Tryd.underlying60 Tryd.underlying59 (by kernel_rfl) (by kernel_rfl) (by rw [HH_is]; rfl) hd0
  have e1 := dt_of_trod Tryd.underlying76 Tryd.underlying59 (by kernel_rfl) (by kernel_rfl) (by rw [KK_is]; rfl) hd1
  have m0 : MemPlace.cell 0 0 ∈ ps := by
    rw [hps, e0, dt_size]
    simp [MemPlace.row]
  have m1 : MemPlace.cell 3 0 ∈ ps := by
    rw [hps, hq0, e1, dt_size]
    simp [MemPlace.row]
  have r0 := row_of_cell hg0 hv0 (hall _ _ m0).1
  have r1 := row_of_cell hg1 hv1 (hall _ _ m1).1
  rw [e0] at r0
  rw [e1] at r1
  exact ⟨r0, r1⟩
/-- The door's own heap meets the condition. -/
theorem door_met10 (os : Os) (args : Array Value) : laidMetH Tryd.prog laid10 ((World.doorLaid Tryd.prog 1000 os).forCall (fun _ _ => 0) ⟨#[], args, []⟩).memory :=
  laidMetH_of_parts3 (fuel := 8) (laidMet_of_run' 8 (by kernel_rfl) (by kernel_rfl)) (by kernel_rfl) (by kernel_rfl)
end Go.Proofs.YthbfodmpoheahaaDoor

/-
  What the listed variables of stage 11's row with four are in memory. Conditions: none.
-/
namespace Go.Proofs.YthbfodmpoheahaaDoor
open Go.RowKit Go.ChangeShapes Go.WideShapes Go.ChangeAt
open Pol (co Sm)

def laid11 : List (String × DataW Unit) := [("math/bits.deBruijn32tab", Rows.laid_math_bits_deBruijn32tab), ("math/bits.deBruijn64tab", Rows.laid_math_bits_deBruijn64tab), ("shroud/sha.start", Rows.laid_shroud_sha_start), ("shroud/sha.constants", Rows.laid_shroud_sha_constants)]
def GLB (w : World) : Prop := GL w ∧ GB w
theorem bt_of_trod {H : Type} {enc : TypeId × Value → H} {W : World} {base : Nat} {sp : Nat → Bool} {held : Bool} {fuel : Nat} {t e : TypeId} {n : Nat} {cs : Array Value} {l : List Nat} {p : List MemPlace}
    (ht : Tryd.prog.underlying t = some (.array n e)) (he : Tryd.prog.underlying e = some (.int .u8)) (hc : Tryd.prog.cellsOf e = 1) (hn : Tryd.prog.cellsOf t = n) (hl : l.length = n)
    (h : DataW.trod enc Tryd.prog W base sp held fuel t cs.toList = some (.agg (l.map fun x : Nat => .lit (.int .u8 ((x : Nat) : Int))), p)) : cs = bt n (co l) := by
  obtain ⟨xs, m1, rfl, hx1, hlen, hlx, hel⟩ := DataW.trod_array ht h
  injection hx1 with hx1 _
  injection hx1 with hx1
  rw [hn] at hlen
  have hsz : cs.size = n := by simpa using hlen
  apply Array.ext
  · rw [bt_size, hsz]
  · intro i h1 h2
    have hi : i < n := by omega
    have he' := hel i hi
    rw [hc, Nat.mul_one] at he'
    have e1 : (cs.toList.drop i).take 1 = [cs[i]] := by
      rw [List.drop_eq_getElem_cons (by simpa using h1)]
      simp
    rw [e1, List.getElem?_eq_getElem (by omega)] at he'
    obtain ⟨k, ek, ex, _⟩ := DataW.trod_int he he'
    have hm : (l.map fun x : Nat => DataW.lit (H := H) (.int .u8 ((x : Nat) : Int)))[i]? = (xs.map (·.1))[i]? := by rw [hx1]
    rw [List.getElem?_map, List.getElem?_map, List.getElem?_eq_getElem (by omega), List.getElem?_eq_getElem (by omega)] at hm
    simp only [Option.map_some, ex] at hm
    injection hm with hm
    injection hm with hm
    injection hm with _ hm
    injection ek with ek
    have hd := bt_at n (co l) i hi
    rw [Array.getElem?_eq_getElem h2] at hd
    injection hd with hd
    rw [ek, hd, ← hm]
    unfold co
    rw [List.getElem?_eq_getElem (by omega)]
    rfl
set_option maxRecDepth 100000 in
theorem bruijn_is : (Rows.laid_math_bits_deBruijn64tab : DataW Unit) = .agg (Lib.deBruijn64tab.map fun x : Nat => .lit (.int .u8 ((x : Nat) : Int))) := rfl
theorem gl_of_laid11 {W : World} (h : laidMetH Tryd.prog laid11 W) : GLB W := by
  rw [MakeChecks.laidMetH_plain _ _ _ (by kernel_rfl)] at h
  obtain ⟨ps, ⟨g0, t0, cs0, f0, p0, q0, hg0, ht0, hv0, hd0, ⟨g1, t1, cs1, f1, p1, q1, hg1, ht1, hv1, hd1, ⟨g2, t2, cs2, f2, p2, q2, hg2, ht2, hv2, hd2, ⟨g3, t3, cs3, f3, p3, q3, hg3, ht3, hv3, hd3, _, hq2⟩, hq1⟩, hq0⟩, hps⟩, _, hall⟩ := h
  obtain rfl := Option.some.inj ((show Tryd.prog.globalNamed "math/bits.deBruijn64tab" = some 2 by kernel_rfl).symm.trans hg1)
  obtain rfl := Option.some.inj ((show Tryd.prog.globalNamed "shroud/sha.start" = some 0 by kernel_rfl).symm.trans hg2)
  obtain rfl := Option.some.inj ((show Tryd.prog.globalNamed "shroud/sha.constants" = some 3 by kernel_rfl).symm.trans hg3)
  obtain rfl := Option.some.inj ((show (Tryd.prog.globals[2]?).map (·.type) = some 78 by kernel_rfl).symm.trans ht1)
  obtain rfl := Option.some.inj ((show (Tryd.prog.globals[0]?).map (·.type) = some 60 by kernel_rfl).symm.trans ht2)
  obtain rfl := Option.some.inj ((show (Tryd.prog.globals[3]?).map (·.type) = some 76 by kernel_rfl).symm.trans ht3)
  rw [bruijn_is] at hd1
  rw [start_is] at hd2
  rw [constants_is] at hd3
  have e1 := bt_of_trod Tryd.underlying78 Tryd.underlying5 (by kernel_rfl) (by kernel_rfl) (by rfl) hd1
  have e2 := dt_of_trod Tryd.underlying60 Tryd.underlying59 (by kernel_rfl) (by kernel_rfl) (by rw [HH_is]; rfl) hd2
  have e3 := dt_of_trod Tryd.underlying76 Tryd.underlying59 (by kernel_rfl) (by kernel_rfl) (by rw [KK_is]; rfl) hd3
  have m1 : MemPlace.cell 2 0 ∈ ps := by
    rw [hps, hq0, e1, bt_size]
    simp [MemPlace.row]
  have m2 : MemPlace.cell 0 0 ∈ ps := by
    rw [hps, hq0, hq1, e2, dt_size]
    simp [MemPlace.row]
  have m3 : MemPlace.cell 3 0 ∈ ps := by
    rw [hps, hq0, hq1, hq2, e3, dt_size]
    simp [MemPlace.row]
  have r1 := row_of_cell hg1 hv1 (hall _ _ m1).1
  have r2 := row_of_cell hg2 hv2 (hall _ _ m2).1
  have r3 := row_of_cell hg3 hv3 (hall _ _ m3).1
  rw [e1] at r1
  rw [e2] at r2
  rw [e3] at r3
  exact ⟨⟨r2, r3⟩, r1⟩
/-- The door's own heap meets the condition. -/
theorem door_met11 (os : Os) (args : Array Value) : laidMetH Tryd.prog laid11 ((World.doorLaid Tryd.prog 1000 os).forCall (fun _ _ => 0) ⟨#[], args, []⟩).memory :=
  laidMetH_of_parts3 (fuel := 8) (laidMet_of_run' 8 (by kernel_rfl) (by kernel_rfl)) (by kernel_rfl) (by kernel_rfl)
end Go.Proofs.YthbfodmpoheahaaDoor

/-
  An argument that is a digest reads as thirty-two bytes. Conditions: none.
-/
namespace Go.Proofs.YthbfodmpoheahaaDoor
open Go.RowKit
open Go.ChangeShapes Go.WideShapes Go.ChangeAt
open Pol (co Sm)

theorem okWide_digest {W : World} {r : Reach} {b0 : Nat} {v : Value} (h : Value.okWide Tryd.prog W r b0 30 v) : ∃ c : Array Value, v = .agg c := by
  simp only [Value.okWide, Tryd.underlying30] at h
  obtain ⟨cs, h1, _⟩ := h
  exact ⟨cs, h1⟩
theorem open_digest {H : Type} {enc : TypeId × Value → H} {W : World} {base : Nat} {sp : Nat → Bool} {held : Bool} {fuel : Nat} {c : Array Value} {d : DataW H} {p : List MemPlace}
    (h : DataW.trod enc Tryd.prog W base sp held fuel 30 c.toList = some (d, p)) : ∃ l, Dgc c l ∧ l.length = 32 ∧ Sm l := by
  obtain ⟨xs, m1, rfl, hx1, hlen, hlx, hel⟩ := DataW.trod_array Tryd.underlying30 h
  rw [show Tryd.prog.cellsOf 30 = 32 from by kernel_rfl] at hlen
  rw [show Tryd.prog.cellsOf 5 = 1 from by kernel_rfl] at hel
  have hsz : c.size = 32 := by simpa using hlen
  have hc : ∀ i, i < 32 → ∃ k : Nat, k < 256 ∧ c[i]? = some (.int .u8 (k : Int)) := fun i hi => by
    have he' := hel i hi
    rw [Nat.mul_one] at he'
    have e1 : (c.toList.drop i).take 1 = [c[i]'(by omega)] := by
      rw [List.drop_eq_getElem_cons (by simp; omega)]
      simp
    rw [e1, List.getElem?_eq_getElem (by omega)] at he'
    obtain ⟨k, ek, _, wk⟩ := DataW.trod_int Tryd.underlying5 he'
    injection ek with ek
    obtain ⟨x, rfl, hx⟩ := nat_u8 wk
    exact ⟨x, hx, by rw [Array.getElem?_eq_getElem (by omega), ek]⟩
  let f : Nat → Nat := fun i => match c[i]? with | some (.int .u8 k) => k.toNat | _ => 0
  have hf : ∀ i, i < 32 → f i < 256 ∧ c[i]? = some (.int .u8 ((f i : Nat) : Int)) := fun i hi => by
    obtain ⟨k, hk, e⟩ := hc i hi
    have : f i = k := by show (match c[i]? with | some (.int .u8 k) => k.toNat | _ => 0) = k; rw [e]; simp
    rw [this]
    exact ⟨hk, e⟩
  refine ⟨tab 32 f, ⟨hsz, fun i hi => ?_⟩, tab_len _ _, tab_sm _ _ fun i hi => (hf i hi).1⟩
  rw [co_tab, if_pos hi]
  exact (hf i hi).2
end Go.Proofs.YthbfodmpoheahaaDoor

/-
  An argument that is a slice of bytes, or of points, reads as a list. Conditions: none.
-/
namespace Go.Proofs.YthbfodmpoheahaaDoor
open Go.RowKit
open Go.ChangeShapes Go.WideShapes Go.ChangeAt
open Pol (co Sm)

section
variable {H : Type} {enc : TypeId × Value → H} {w : World} {base : Nat} {spare : Nat → Bool} {held : Bool}
theorem open_bytes {fuel len cap : Nat} {a : Option Addr} {x : DataW H × List MemPlace} (h : DataW.trod enc Tryd.prog w base spare held fuel 35 [.slice a len cap] = some x) :
    ∃ l : List Nat, l.length = len ∧ len ≤ cap ∧ Rd w a l := by
  rcases open_ints Tryd.underlying35 Tryd.underlying5 (by kernel_rfl) h with ⟨hcs, _⟩ | ⟨a', len', cap', zs, hcs, _, hl, _, hz, _, hcell, hwz⟩
  · simp at hcs
    obtain ⟨rfl, rfl, rfl⟩ := hcs
    exact ⟨[], rfl, Nat.le_refl _, Rd.nil _ _⟩
  · simp at hcs
    obtain ⟨rfl, rfl, rfl⟩ := hcs
    have hlz : len ≤ zs.length := by rw [hz]; split <;> omega
    have hnat : ∀ i, i < zs.length → ∃ n : Nat, zs.getD i 0 = (n : Int) ∧ n < 256 := fun i hi => by
      have hm : zs.getD i 0 ∈ zs := by rw [List.getD_eq_getElem?_getD, List.getElem?_eq_getElem hi]; exact List.getElem_mem hi
      exact nat_u8 (hwz _ hm)
    refine ⟨(List.range len).map (fun i => (zs.getD i 0).toNat), by simp, hl, ?_, fun i hi => ?_⟩
    · refine Pol.co_lt_of (fun v hv => ?_)
      obtain ⟨i, hi, rfl⟩ := List.mem_map.1 hv
      obtain ⟨n, hn, hn'⟩ := hnat i (by have := List.mem_range.1 hi; omega)
      show (zs.getD i 0).toNat < 256
      rw [hn]; omega
    · have hi' : i < len := by simpa using hi
      obtain ⟨b, o, rfl, hc⟩ := ints_at hcell (by omega)
      refine ⟨b, o, rfl, ?_⟩
      rw [hc i (by omega)]
      obtain ⟨n, hn, _⟩ := hnat i (by omega)
      congr 2
      unfold co
      rw [List.getElem?_map, List.getElem?_range hi']
      show zs.getD i 0 = (((zs.getD i 0).toNat : Nat) : Int)
      rw [hn]; omega
end
end Go.Proofs.YthbfodmpoheahaaDoor

/-
  An argument that is a slice of slices of bytes reads as a list of rows. Conditions: none.
-/
namespace Go.Proofs.YthbfodmpoheahaaDoor
open Go.RowKit
open Go.ChangeShapes Go.WideShapes Go.ChangeAt
open Pol (co Sm)

/-- Rows as they come in. -/
def ARd (w : World) (A : Option Addr) (rows : List (List Nat)) : Prop := RRd w A rows ∧ rows.length ≤ maxLen
section
variable {H : Type} {enc : TypeId × Value → H} {w : World} {base : Nat} {spare : Nat → Bool} {held : Bool}
theorem open_rows {fuel len cap : Nat} {a : Option Addr} {x : DataW H × List MemPlace} (h : DataW.trod enc Tryd.prog w base spare held fuel 22 [.slice a len cap] = some x) :
    ∃ l : List (List Nat), l.length = len ∧ len ≤ cap ∧ ARd w a l := by
  rcases Go.Deep.open_slice1 Tryd.underlying22 (by kernel_rfl) h with ⟨hcs, _⟩ | ⟨a', len', cap', m, n, V, D, Pl, hcs, _, hl, hmax, hm, _, hall⟩
  · simp at hcs
    obtain ⟨rfl, rfl, rfl⟩ := hcs
    exact ⟨[], rfl, Nat.le_refl _, RRd.nil _ _, Nat.zero_le _⟩
  · simp at hcs
    obtain ⟨rfl, rfl, rfl⟩ := hcs
    have hlm : len ≤ m := by rw [hm]; split <;> omega
    have each : ∀ i, i < len → ∃ q : List Nat, ∃ B c, w.cell? (a'.add i) = some (.slice B q.length c) ∧ q.length ≤ c ∧ Rd w B q := fun i hi => by
      obtain ⟨hc, ht⟩ := hall i (by omega)
      obtain ⟨B, nb, cb, hv⟩ : ∃ B nb cb, V i = .slice B nb cb := by
        rcases Go.Deep.open_slice Tryd.underlying35 ht with ⟨e, _⟩ | ⟨a2, l2, c2, _, _, _, _, e, _⟩
        · exact ⟨none, 0, 0, by simpa using e⟩
        · exact ⟨some a2, l2, c2, by simpa using e⟩
      rw [hv] at ht hc
      obtain ⟨q, hq, hqc, hqr⟩ := open_bytes ht
      exact ⟨q, B, cb, by rw [hq]; exact hc, by rw [hq]; exact hqc, hqr⟩
    obtain ⟨q, hq⟩ := Go.Deep.choose_lt each
    have hat : ∀ i, i < len → ro ((List.range len).map q) i = q i := fun i hi => by unfold ro; rw [List.getElem?_map, List.getElem?_range hi]; rfl
    refine ⟨(List.range len).map q, by simp, hl, fun i hi => ?_, by rw [List.length_map, List.length_range]; omega⟩
    have hi' : i < len := by simpa using hi
    obtain ⟨B, c, h1, h2, h3⟩ := hq i hi'
    obtain ⟨b, o, spot⟩ := a'
    have hspot : spot = none := by
      obtain ⟨_, _, h0, _⟩ := hq 0 (by omega)
      simpa [Addr.add] using World.cell?_spot h0
    subst hspot
    rw [hat i hi']
    exact ⟨b, o, B, c, rfl, by rw [← Addr.add_mid]; exact h1, h2, h3⟩
end
end Go.Proofs.YthbfodmpoheahaaDoor

/-
  An argument that is a slice of slices of bytes: no row takes more than the form's reach. Conditions: none.
-/
namespace Go.Proofs.YthbfodmpoheahaaDoor
open Go.RowKit
open Go.ChangeShapes Go.WideShapes Go.ChangeAt
open Pol (co Sm)

theorem weights_mem_all {H : Type} {P : Program} {e : TypeId} {n : Nat} : ∀ {ds : List (DataW H)} {d : DataW H}, d ∈ ds → n ∈ d.weights P e → n ∈ DataW.weightsAll P e ds
  | [], _, h, _ => by simp at h
  | x :: r, d, h, hn => by
    rcases List.mem_cons.1 h with rfl | h
    · simp only [DataW.weightsAll, List.mem_append]
      exact .inl hn
    · simp only [DataW.weightsAll, List.mem_append]
      exact .inr (weights_mem_all h hn)
/-- Rows as they come in, each within the form's reach. -/
def SRd (w : World) (A : Option Addr) (rows : List (List Nat)) : Prop := ARd w A rows ∧ ∀ i, i < rows.length → (ro rows i).length ≤ reachBytes
section
variable {H : Type} {enc : TypeId × Value → H} {w : World} {base : Nat} {spare : Nat → Bool} {held : Bool}
theorem open_srows {ts : List TypeId} {ds : List (DataW H)} {j fuel len cap : Nat} {a : Option Addr} {d : DataW H} {p : List MemPlace} (hsz : (DataW.weightsEach Tryd.prog ts ds).all (· ≤ reachBytes) = true) (ht : ts[j]? = some 22) (hd : ds[j]? = some d)
    (h : DataW.trod enc Tryd.prog w base spare held fuel 22 [.slice a len cap] = some (d, p)) : ∃ l : List (List Nat), l.length = len ∧ len ≤ cap ∧ SRd w a l := by
  rcases Go.Deep.open_slice1 Tryd.underlying22 (by kernel_rfl) h with ⟨hcs, _⟩ | ⟨a', len', cap', m, n, V, D, Pl, hcs, _, hl, hmax, hm, hx, hall⟩
  · simp at hcs
    obtain ⟨rfl, rfl, rfl⟩ := hcs
    exact ⟨[], rfl, Nat.le_refl _, ⟨RRd.nil _ _, Nat.zero_le _⟩, fun i hi => absurd hi (by simp)⟩
  · simp at hcs
    obtain ⟨rfl, rfl, rfl⟩ := hcs
    injection hx with hx _
    subst hx
    have hlm : len ≤ m := by rw [hm]; split <;> omega
    have each : ∀ i, i < len → ∃ q : List Nat, ∃ B c, w.cell? (a'.add i) = some (.slice B q.length c) ∧ q.length ≤ c ∧ Rd w B q ∧ q.length ≤ reachBytes := fun i hi => by
      obtain ⟨hc, ht'⟩ := hall i (by omega)
      have hw : ∀ x, x ∈ (D i).weights Tryd.prog 35 → x ≤ reachBytes := fun x hx => by
        have hmem : D i ∈ (List.range len).map D := List.mem_map.2 ⟨i, List.mem_range.2 hi, rfl⟩
        have h1 := weights_mem_all (P := Tryd.prog) (e := 35) hmem hx
        have h2 := DataW.weights_mem_each (P := Tryd.prog) ht hd x (by
          simp only [DataW.weights, Tryd.underlying22, List.mem_cons, List.mem_append]
          exact .inr (.inl h1))
        simpa using List.all_eq_true.1 hsz x h2
      obtain ⟨B, nb, cb, hv, hr⟩ : ∃ B nb cb, V i = .slice B nb cb ∧ nb ≤ reachBytes := by
        rcases Go.Deep.open_slice Tryd.underlying35 ht' with ⟨e, _⟩ | ⟨a2, l2, c2, m2, _, D2, _, e, _, _, _, hm2, hx2, _⟩
        · exact ⟨none, 0, 0, by simpa using e, Nat.zero_le _⟩
        · refine ⟨some a2, l2, c2, by simpa using e, ?_⟩
          injection hx2 with hx2 _
          have := hw ((l2 + (m2 - l2)) * Tryd.prog.bytesOf 5) (by rw [hx2]; simp [DataW.weights, Tryd.underlying35])
          rw [show Tryd.prog.bytesOf 5 = 1 from by kernel_rfl] at this
          omega
      rw [hv] at ht' hc
      obtain ⟨q, hq, hqc, hqr⟩ := open_bytes ht'
      exact ⟨q, B, cb, by rw [hq]; exact hc, by rw [hq]; exact hqc, hqr, by rw [hq]; exact hr⟩
    obtain ⟨q, hq⟩ := Go.Deep.choose_lt each
    have hat : ∀ i, i < len → ro ((List.range len).map q) i = q i := fun i hi => by unfold ro; rw [List.getElem?_map, List.getElem?_range hi]; rfl
    refine ⟨(List.range len).map q, by simp, hl, ⟨fun i hi => ?_, by rw [List.length_map, List.length_range]; omega⟩, fun i hi => ?_⟩
    · have hi' : i < len := by simpa using hi
      obtain ⟨B, c, h1, h2, h3, _⟩ := hq i hi'
      obtain ⟨b, o, spot⟩ := a'
      have hspot : spot = none := by
        obtain ⟨_, _, h0, _⟩ := hq 0 (by omega)
        simpa [Addr.add] using World.cell?_spot h0
      subst hspot
      rw [hat i hi']
      exact ⟨b, o, B, c, rfl, by rw [← Addr.add_mid]; exact h1, h2, h3⟩
    · have hi' : i < len := by simpa using hi
      obtain ⟨_, _, _, _, _, h4⟩ := hq i hi'
      rw [hat i hi']
      exact h4
end
end Go.Proofs.YthbfodmpoheahaaDoor

/-
  Part 5 of the texts that the seat's proofs stand on; each part of it begins with its own sentence and conditions. Conditions: those that each theorem names.
-/
import Derived.Test.YthbfodmpoheahaaDoorChangesPack4
import Derived.Deep.DeepCutAuto

/-
  What inner of layer 11's laws does, of several texts. Conditions: under what the document's Of is to do; at most 4096 texts of 2^15 bytes.
-/
namespace Go.Proofs.YthbfodmpoheahaaDoor
open Go.RowKit
open Pol (co Sm)

theorem minn_few (D : List Nat → List Nat) : ∀ (m : Nat) (l : List (List Nat)), l.length ≤ m → 1 ≤ l.length → (minn D l).length + 1 ≤ 2 * l.length
  | m, l, hm, h1 => by
    by_cases h2 : 2 ≤ l.length
    · have k1 := spl_lt h2
      have k0 := spl_pos l.length
      cases m with
      | zero => omega
      | succ m =>
        have i1 := minn_few D m (l.take (spl l.length)) (by rw [List.length_take]; omega) (by rw [List.length_take]; omega)
        have i2 := minn_few D m (l.drop (spl l.length)) (by rw [List.length_drop]; omega) (by rw [List.length_drop]; omega)
        rw [List.length_take] at i1
        rw [List.length_drop] at i2
        rw [minn_more D h2, List.length_append, List.length_append, List.length_singleton]
        omega
    · obtain ⟨t, rfl⟩ := List.length_eq_one_iff.1 (show l.length = 1 from by omega)
      rw [minn_one]
      simp
set_option maxHeartbeats 3200000 in
set_option maxRecDepth 100000 in
theorem law11_inner_more (R : RefOf) (rows : List (List Nat)) (k : Nat) (A : Option Addr) (c : Nat) (w : World) (h2 : 2 ≤ rows.length) (hr : RRd w A rows) (hc : rows.length ≤ c) (hl : rows.length ≤ 4096) (hls : ∀ i, i < rows.length → (ro rows i).length ≤ 32768) (hk : spl rows.length = k)
    (ih1 : ∀ W, Ext w W → Calls Tryd.prog 35 #[.slice A k c] W (InnerS (rows.take k) W))
    (ih2 : ∀ X W, Ext w W → RRd W X (rows.drop k) → Calls Tryd.prog 35 #[.slice X (rows.length - k) (c - k)] W (InnerS (rows.drop k) W)) :
    Calls Tryd.prog 35 #[.slice A rows.length c] w (InnerS rows w) := by
  have hz := zero_digest.1
  have HZ32 := Lib.hid (fun (_ : Unit) => show (bt 32 fun _ => 0).size = 32 from bt_size _ _)
  obtain ⟨Z, hZ⟩ : ∃ Z, (bt 32 fun _ => 0) = Z := ⟨_, rfl⟩
  rw [hZ] at hz HZ32
  have hk1 := spl_lt h2
  have hk0 := spl_pos rows.length
  have hmm := minn_more sha h2
  rw [hk] at hk1 hk0 hmm
  obtain ⟨X, hX, hXR⟩ := run_rest_rows A rows.length c k (by omega) hc
  have htl : (rows.take k).length = k := by rw [List.length_take]; omega
  have hdl : (rows.drop k).length = rows.length - k := by rw [List.length_drop]
  have f1 := minn_few sha k (rows.take k) (by omega) (by omega)
  have f2 := minn_few sha rows.length (rows.drop k) (by omega) (by omega)
  have HRA := Lib.hid (fun W (h : Ext w W) => ref11_root R 4096 (rows.take k) A c W (by omega) ((hr.take k).ext h) (by omega) (by omega) (fun i hi => by rw [ro_take rows k i (by omega)]; exact hls i (by omega)))
  have HRB := Lib.hid (fun W (h : Ext w W) => ref11_root R 4096 (rows.drop k) X (c - k) W (by omega) (hXR W rows (hr.ext h) rfl) (by omega) (by omega) (fun i hi => by
    rw [show ro (rows.drop k) i = ro rows (k + i) from by unfold ro; rw [List.getElem?_drop]]
    exact hls (k + i) (by omega)))
  have HI1 := Lib.hid ih1
  have HI2 := Lib.hid (fun W (h : Ext w W) => ih2 X W h (hXR W rows (hr.ext h) rfl))
  rw [htl] at HRA f1
  rw [hdl] at HRB f2
  unfold InnerS at HI1 HI2 ⊢
  rw [hmm]
  have HYA := Lib.hid (And.intro (mroot_32 (rows.take k)) (mroot_sm (rows.take k)))
  have HYB := Lib.hid (And.intro (mroot_32 (rows.drop k)) (mroot_sm (rows.drop k)))
  obtain ⟨ya, hya⟩ : ∃ y, mroot sha (rows.take k) = y := ⟨_, rfl⟩
  obtain ⟨yb, hyb⟩ : ∃ y, mroot sha (rows.drop k) = y := ⟨_, rfl⟩
  obtain ⟨r1, hr1⟩ : ∃ y, minn sha (rows.take k) = y := ⟨_, rfl⟩
  obtain ⟨r2, hr2⟩ : ∃ y, minn sha (rows.drop k) = y := ⟨_, rfl⟩
  rw [hya] at HRA HYA ⊢
  rw [hyb] at HRB HYB ⊢
  rw [hr1] at HI1 f1 ⊢
  rw [hr2] at HI2 f2 ⊢
  obtain ⟨n, hn⟩ : ∃ n, rows.length = n := ⟨_, rfl⟩
  rw [hn] at h2 hc hl hk hX HRB HI2 hk1 f2 ⊢
  obtain ⟨r, hrr⟩ : ∃ r, n - k = r := ⟨_, rfl⟩
  obtain ⟨cr, hcr⟩ : ∃ r, c - k = r := ⟨_, rfl⟩
  rw [hrr, hcr] at hX HRB HI2
  rw [hrr] at f2
  have HT1 := Lib.hid (show ([1] ++ ya).length = 33 ∧ Sm ([1] ++ ya) from ⟨by simp [HYA.out.1], sm_app (fun i => by match i with | 0 => decide | i + 1 => simp [co]) HYA.out.2⟩)
  have HT2 := Lib.hid (show ([1] ++ ya ++ yb).length = 65 ∧ Sm ([1] ++ ya ++ yb) from ⟨by simp [HYA.out.1, HYB.out.1], sm_app HT1.out.2 HYB.out.2⟩)
  have HRW := Lib.hid (show ([1] ++ ya ++ yb : List Nat) = 1 :: (ya ++ yb) from rfl)
  have HF1 := Lib.hid (show r1.length + r2.length ≤ 1048576 from by omega)
  have HF2 := Lib.hid (show (r1 ++ r2).length + [1 :: (ya ++ yb)].length ≤ 1048576 from by rw [List.length_append]; simp; omega)
  have HLA := Lib.hid (fun (W : World) (g : Nat) (h : W.heap[g]? = some (.cells (bt 32 (co ya)) 30 (0, 0))) => rd_of_blk h HYA.out.1 HYA.out.2)
  have HLB := Lib.hid (fun (W : World) (g : Nat) (h : W.heap[g]? = some (.cells (bt 32 (co yb)) 30 (0, 0))) => rd_of_blk h HYB.out.1 HYB.out.2)
  have HVA := Lib.hid (bt_dgc ya)
  have HVB := Lib.hid (bt_dgc yb)
  unfold dgv at HRA HRB
  obtain ⟨VA, hVA⟩ : ∃ V, bt 32 (co ya) = V := ⟨_, rfl⟩
  rw [hVA] at HRA HVA HLA
  obtain ⟨VB, hVB⟩ : ∃ V, bt 32 (co yb) = V := ⟨_, rfl⟩
  rw [hVB] at HRB HVB HLB
  have HIA := Lib.hid HVA.out.info
  have HOA := Lib.hid HVA.out.one
  have HZA := Lib.hid (show Z.size = VA.size from by rw [HVA.out.1]; exact HZ32.out ())
  have HIB := Lib.hid HVB.out.info
  have HOB := Lib.hid HVB.out.one
  have HZB := Lib.hid (show Z.size = VB.size from by rw [HVB.out.1]; exact HZ32.out ())
  have d1 : decide ((n : Int) = 0) = false := decide_eq_false (by omega)
  have n1 : ¬ (n : Int) = 0 := by omega
  have n1b : ¬ n = 0 := by omega
  have d2 : decide ((n : Int) = 1) = false := decide_eq_false (by omega)
  have n2 : ¬ (n : Int) = 1 := by omega
  have n2b : ¬ n = 1 := by omega
  have ht := fun W => run_to_rows A n c k (by omega) W
  have HKN := Lib.hid (And.intro hk h2)
  have HNB := Lib.hid hl
  clear ih1 ih2 hr hls hZ hmm htl hdl f1 f2 hya hyb hr1 hr2 hn hrr hcr hVA hVB hXR hk hk0 hk1 h2 hc hl
  go_enter Tryd.func35, Tryd.ntmps35
  go_wp2
  go_loopg [3] 64 (fun g s wx => ∃ j K q : Nat, j + g = 64 ∧ 2 ^ j = K ∧ (j = 0 ∨ K < n) ∧ s = .int .i64 (K : Int) ∧ wx = w.drewN q)
  case atStart => exact ⟨0, 1, 0, rfl, rfl, .inl rfl, rfl, rfl⟩
  case round =>
    obtain ⟨j', K, q, hjg, hK, hj', rfl, rfl⟩ := hrel
    have hnb := HNB.out
    have hKb : K ≤ 1099511627776 := by
      rcases hj' with rfl | h
      · rw [← hK]; decide
      · omega
    have hKp : 0 < K := by rw [← hK]; exact Nat.two_pow_pos j'
    have e9 : IntKind.i64.wrap (2 * (K : Int)) = 2 * (K : Int) := by rw [IntKind.wrap_i64]; omega
    by_cases h2 : 2 * K < n
    · have dd1 : decide (2 * (K : Int) < (n : Int)) = true := decide_eq_true (by omega)
      have dd2 : 2 * (K : Int) < (n : Int) := by omega
      cases gk with
      | zero =>
        have : j' = 64 := by omega
        subst this
        have h64 : (2 : Nat) ^ 64 = 18446744073709551616 := by decide
        omega
      | succ g =>
        have HK := Lib.hid hK
        have HJ := Lib.hid hjg
        clear hK hj' hjg hnb
        go_wp2
        go_roundg g
        case measure => omega
        case rel => exact ⟨j' + 1, 2 * K, q, by have := HJ.out; omega, by rw [Nat.pow_succ, HK.out]; omega, .inr h2, by go_num, rfl⟩
    · have dd1 : decide (2 * (K : Int) < (n : Int)) = false := decide_eq_false (by omega)
      have dd2 : ¬ 2 * (K : Int) < (n : Int) := by omega
      have hKR : K = k := by
        rw [← HKN.out.1]
        have h2n := HKN.out.2
        rcases hj' with rfl | h
        · have hk1 : K = 1 := by rw [← hK]
          have : n = 2 := by omega
          subst this
          rw [hk1]; decide
        · rw [spl_mid (e := j') (by omega) (by rw [Nat.pow_succ]; omega), hK]
      subst hKR
      have HXQ := Lib.hid (show Ext w (w.drewN q) from (Ext.refl w).drewN q)
      obtain ⟨wq, hwq⟩ : ∃ W, W = w.drewN q := ⟨_, rfl⟩
      rw [← hwq] at HXQ ⊢
      clear hK hj' hjg hnb hKb hKp HKN hwq
      go_upto_region 8 with (fail)
      go_cut [4, 5] (fun s4 s5 wx => ∃ g4 g5, s4 = .pointer (some ⟨g4, 0, none⟩) ∧ s5 = .pointer (some ⟨g5, 0, none⟩) ∧ wx.heap[g4]? = some (.cells VA 30 (0, 0)) ∧ wx.heap[g5]? = some (.cells VB 30 (0, 0)) ∧ Ext w wx)
      case first =>
        obtain ⟨u, hu⟩ : ∃ u, wq.drew = u := ⟨_, rfl⟩
        have HXU := Lib.hid (show Ext w u from by rw [← hu]; exact HXQ.out.drew)
        refine wp_region_plan (AfterH w) [0, 1, 2, 3, 4, 5, 6, 7, 8, 9] (.yes 0 (.yes 1 (.yes 2 (.yes 4 (.yes 5 (.yes 6 (.three 3 (.three 7 (.two 8 (.one 9 (.one 10 (.one 11 .done))) 9 (.one 8 (.one 10 (.one 11 .done)))) 8 (.two 7 (.one 9 (.one 10 (.one 11 .done))) 9 (.one 7 (.one 10 (.one 11 .done)))) 9 (.two 7 (.one 8 (.one 10 (.one 11 .done))) 8 (.one 7 (.one 10 (.one 11 .done))))) 8 (.two 3 (.two 7 (.one 9 (.one 10 (.one 11 .done))) 9 (.one 7 (.one 10 (.one 11 .done)))) 9 (.one 3 (.one 7 (.one 10 (.one 11 .done))))) 9 (.two 3 (.two 7 (.one 8 (.one 10 (.one 11 .done))) 8 (.one 7 (.one 10 (.one 11 .done)))) 8 (.one 3 (.one 7 (.one 10 (.one 11 .done)))))))))))) (by kernel_rfl) (fun c a a' w e h => ⟨e ▸ h.1, h.2⟩) (by kernel_rfl) (by rw [hu]; exact HXU.out) ?_
        rw [hu]
        clear hu
        refine plan_yes rfl (fun K hK => ?_); go_simp; refine ⟨_, fun _ _ => rfl, hK _ ?_⟩; clear hK K
        refine plan_yes rfl (fun K hK => ?_); go_simp; refine ⟨_, fun _ _ => rfl, hK _ ?_⟩; clear hK K
        refine plan_yes rfl (fun K hK => ?_); go_simp; refine ⟨_, fun _ _ => rfl, hK _ ?_⟩; clear hK K
        refine plan_yes rfl (fun K hK => ?_); go_simp; refine ⟨_, fun _ _ => rfl, hK _ ?_⟩; clear hK K
        refine plan_yes rfl (fun K hK => ?_); go_simp; refine ⟨_, fun _ _ => rfl, hK _ ?_⟩; clear hK K
        refine plan_yes rfl (fun K hK => ?_); go_simp; refine ⟨_, fun _ _ => rfl, hK _ ?_⟩; clear hK K
        refine plan_three rfl rfl rfl (fun K hK => ?_) (fun K hK => ?_) (fun K hK => ?_)
        · skip
          go_wp2_with fail
          refine (HRA.out _ HXU.out).mono ?_
          rintro e v1 ⟨rfl, hx⟩
          have HXv1 := Lib.hid (HXU.out.trans hx)
          clear hx
          go_wp2
          refine ⟨by first | exact HXv1.out | exact fun _ => HXv1.out, ?_⟩
          refine plan_three rfl rfl rfl (fun K hK => ?_) (fun K hK => ?_) (fun K hK => ?_)
          · skip
            go_wp2_with fail
            refine (HRB.out _ HXv1.out).mono ?_
            rintro e v2 ⟨rfl, hx⟩
            have HXv2 := Lib.hid (HXv1.out.trans hx)
            clear hx
            go_wp2
            refine ⟨by first | exact HXv2.out | exact fun _ => HXv2.out, ?_⟩
            refine plan_two rfl rfl (fun K hK => ?_) (fun K hK => ?_)
            · skip
              obtain ⟨g4, hg4⟩ : ∃ g, (v2).heap.size = g := ⟨_, rfl⟩
              have HNg4 := Lib.hid (show ((v2).alloc (.cells Z 30)).heap[g4]? = some (.cells Z 30 (0, 0)) from by rw [← hg4]; exact heap_alloc_new _ _)
              have HSg4 := Lib.hid (show w.heap.size ≤ g4 from by rw [← hg4]; exact HXv2.out.size)
              have HXv3 := Lib.hid (show Ext w ((v2).alloc (.cells Z 30)) from HXv2.out.alloc _)
              go_wp2
              refine ⟨by first | exact HXv3.out | exact fun _ => HXv3.out, ?_⟩
              generalize (v2).alloc (.cells Z 30) = v3 at HXv3 HNg4 ⊢
              clear hg4
              refine plan_one rfl (fun K hK => ?_)
              obtain ⟨g5, hg5⟩ : ∃ g, (v3).heap.size = g := ⟨_, rfl⟩
              have HNg5 := Lib.hid (show ((v3).alloc (.cells Z 30)).heap[g5]? = some (.cells Z 30 (0, 0)) from by rw [← hg5]; exact heap_alloc_new _ _)
              have HSg5 := Lib.hid (show w.heap.size ≤ g5 from by rw [← hg5]; exact HXv3.out.size)
              have HXv4 := Lib.hid (show Ext w ((v3).alloc (.cells Z 30)) from HXv3.out.alloc _)
              have HOv4 := Lib.hid (WBlk.ext' HNg4.out ((Ext.refl (v3)).alloc (.cells Z 30)))
              have HNE := Lib.hid (show g4 ≠ g5 from by have := lt_of_some HNg4.out; omega)
              go_wp2
              refine ⟨by first | exact HXv4.out | exact fun _ => HXv4.out, ?_⟩
              generalize (v3).alloc (.cells Z 30) = v4 at HXv4 HNg5 HOv4 ⊢
              clear hg5
              have HX8 := Lib.hid (HXv4.out.setRow (g := g4) HSg4.out VA)
              have HG8 := Lib.hid (setRow_heap _ g4 _ VA _ _ HOv4.out)
              have HF8 := Lib.hid (setRow_far (V := VA) HNE.out HNg5.out)
              refine plan_one rfl (fun K hK => ?_)
              go_wp2_with (with_reducible refine wpList_store_all rfl 30 (.tmp 4) (.tmp 31) rfl g4 Z VA rfl rfl HOv4.out HIA.out HZA.out HOA.out ?_)
              refine ⟨fun h => absurd h (by decide), ?_⟩
              generalize (v4).setRow g4 VA = w8 at HX8 HG8 HF8 ⊢
              have HX9 := Lib.hid (HX8.out.setRow (g := g5) HSg5.out VB)
              have HG9 := Lib.hid (setRow_heap _ g5 _ VB _ _ HF8.out)
              have HF9 := Lib.hid (setRow_far (V := VB) (Ne.symm HNE.out) HG8.out)
              refine plan_one rfl (fun K hK => ?_)
              go_wp2_with (with_reducible refine wpList_store_all rfl 30 (.tmp 5) (.tmp 35) rfl g5 Z VB rfl rfl HF8.out HIB.out HZB.out HOB.out ?_)
              refine ⟨fun h => absurd h (by decide), ?_⟩
              unfold wpPlan
              go_wp2_with fail
              go_meet
              exact ⟨g4, g5, rfl, rfl, HF9.out, HG9.out, HX9.out⟩
            · skip
              obtain ⟨g5, hg5⟩ : ∃ g, (v2).heap.size = g := ⟨_, rfl⟩
              have HNg5 := Lib.hid (show ((v2).alloc (.cells Z 30)).heap[g5]? = some (.cells Z 30 (0, 0)) from by rw [← hg5]; exact heap_alloc_new _ _)
              have HSg5 := Lib.hid (show w.heap.size ≤ g5 from by rw [← hg5]; exact HXv2.out.size)
              have HXv5 := Lib.hid (show Ext w ((v2).alloc (.cells Z 30)) from HXv2.out.alloc _)
              go_wp2
              refine ⟨by first | exact HXv5.out | exact fun _ => HXv5.out, ?_⟩
              generalize (v2).alloc (.cells Z 30) = v5 at HXv5 HNg5 ⊢
              clear hg5
              refine plan_one rfl (fun K hK => ?_)
              obtain ⟨g4, hg4⟩ : ∃ g, (v5).heap.size = g := ⟨_, rfl⟩
              have HNg4 := Lib.hid (show ((v5).alloc (.cells Z 30)).heap[g4]? = some (.cells Z 30 (0, 0)) from by rw [← hg4]; exact heap_alloc_new _ _)
              have HSg4 := Lib.hid (show w.heap.size ≤ g4 from by rw [← hg4]; exact HXv5.out.size)
              have HXv6 := Lib.hid (show Ext w ((v5).alloc (.cells Z 30)) from HXv5.out.alloc _)
              have HOv6 := Lib.hid (WBlk.ext' HNg5.out ((Ext.refl (v5)).alloc (.cells Z 30)))
              have HNE := Lib.hid (show g4 ≠ g5 from by have := lt_of_some HNg5.out; omega)
              go_wp2
              refine ⟨by first | exact HXv6.out | exact fun _ => HXv6.out, ?_⟩
              generalize (v5).alloc (.cells Z 30) = v6 at HXv6 HNg4 HOv6 ⊢
              clear hg4
              have HX8 := Lib.hid (HXv6.out.setRow (g := g4) HSg4.out VA)
              have HG8 := Lib.hid (setRow_heap _ g4 _ VA _ _ HNg4.out)
              have HF8 := Lib.hid (setRow_far (V := VA) HNE.out HOv6.out)
              refine plan_one rfl (fun K hK => ?_)
              go_wp2_with (with_reducible refine wpList_store_all rfl 30 (.tmp 4) (.tmp 31) rfl g4 Z VA rfl rfl HNg4.out HIA.out HZA.out HOA.out ?_)
              refine ⟨fun h => absurd h (by decide), ?_⟩
              generalize (v6).setRow g4 VA = w8 at HX8 HG8 HF8 ⊢
              have HX9 := Lib.hid (HX8.out.setRow (g := g5) HSg5.out VB)
              have HG9 := Lib.hid (setRow_heap _ g5 _ VB _ _ HF8.out)
              have HF9 := Lib.hid (setRow_far (V := VB) (Ne.symm HNE.out) HG8.out)
              refine plan_one rfl (fun K hK => ?_)
              go_wp2_with (with_reducible refine wpList_store_all rfl 30 (.tmp 5) (.tmp 35) rfl g5 Z VB rfl rfl HF8.out HIB.out HZB.out HOB.out ?_)
              refine ⟨fun h => absurd h (by decide), ?_⟩
              unfold wpPlan
              go_wp2_with fail
              go_meet
              exact ⟨g4, g5, rfl, rfl, HF9.out, HG9.out, HX9.out⟩
          · skip
            obtain ⟨g4, hg4⟩ : ∃ g, (v1).heap.size = g := ⟨_, rfl⟩
            have HNg4 := Lib.hid (show ((v1).alloc (.cells Z 30)).heap[g4]? = some (.cells Z 30 (0, 0)) from by rw [← hg4]; exact heap_alloc_new _ _)
            have HSg4 := Lib.hid (show w.heap.size ≤ g4 from by rw [← hg4]; exact HXv1.out.size)
            have HXv7 := Lib.hid (show Ext w ((v1).alloc (.cells Z 30)) from HXv1.out.alloc _)
            go_wp2
            refine ⟨by first | exact HXv7.out | exact fun _ => HXv7.out, ?_⟩
            generalize (v1).alloc (.cells Z 30) = v7 at HXv7 HNg4 ⊢
            clear hg4
            refine plan_two rfl rfl (fun K hK => ?_) (fun K hK => ?_)
            · skip
              go_wp2_with fail
              refine (HRB.out _ HXv7.out).mono ?_
              rintro e v8 ⟨rfl, hx⟩
              have HXv8 := Lib.hid (HXv7.out.trans hx)
              have H4v8 := Lib.hid (WBlk.ext' HNg4.out hx)
              clear hx
              go_wp2
              refine ⟨by first | exact HXv8.out | exact fun _ => HXv8.out, ?_⟩
              refine plan_one rfl (fun K hK => ?_)
              obtain ⟨g5, hg5⟩ : ∃ g, (v8).heap.size = g := ⟨_, rfl⟩
              have HNg5 := Lib.hid (show ((v8).alloc (.cells Z 30)).heap[g5]? = some (.cells Z 30 (0, 0)) from by rw [← hg5]; exact heap_alloc_new _ _)
              have HSg5 := Lib.hid (show w.heap.size ≤ g5 from by rw [← hg5]; exact HXv8.out.size)
              have HXv9 := Lib.hid (show Ext w ((v8).alloc (.cells Z 30)) from HXv8.out.alloc _)
              have HOv9 := Lib.hid (WBlk.ext' H4v8.out ((Ext.refl (v8)).alloc (.cells Z 30)))
              have HNE := Lib.hid (show g4 ≠ g5 from by have := lt_of_some H4v8.out; omega)
              go_wp2
              refine ⟨by first | exact HXv9.out | exact fun _ => HXv9.out, ?_⟩
              generalize (v8).alloc (.cells Z 30) = v9 at HXv9 HNg5 HOv9 ⊢
              clear hg5
              have HX8 := Lib.hid (HXv9.out.setRow (g := g4) HSg4.out VA)
              have HG8 := Lib.hid (setRow_heap _ g4 _ VA _ _ HOv9.out)
              have HF8 := Lib.hid (setRow_far (V := VA) HNE.out HNg5.out)
              refine plan_one rfl (fun K hK => ?_)
              go_wp2_with (with_reducible refine wpList_store_all rfl 30 (.tmp 4) (.tmp 31) rfl g4 Z VA rfl rfl HOv9.out HIA.out HZA.out HOA.out ?_)
              refine ⟨fun h => absurd h (by decide), ?_⟩
              generalize (v9).setRow g4 VA = w8 at HX8 HG8 HF8 ⊢
              have HX9 := Lib.hid (HX8.out.setRow (g := g5) HSg5.out VB)
              have HG9 := Lib.hid (setRow_heap _ g5 _ VB _ _ HF8.out)
              have HF9 := Lib.hid (setRow_far (V := VB) (Ne.symm HNE.out) HG8.out)
              refine plan_one rfl (fun K hK => ?_)
              go_wp2_with (with_reducible refine wpList_store_all rfl 30 (.tmp 5) (.tmp 35) rfl g5 Z VB rfl rfl HF8.out HIB.out HZB.out HOB.out ?_)
              refine ⟨fun h => absurd h (by decide), ?_⟩
              unfold wpPlan
              go_wp2_with fail
              go_meet
              exact ⟨g4, g5, rfl, rfl, HF9.out, HG9.out, HX9.out⟩
            · skip
              obtain ⟨g5, hg5⟩ : ∃ g, (v7).heap.size = g := ⟨_, rfl⟩
              have HNg5 := Lib.hid (show ((v7).alloc (.cells Z 30)).heap[g5]? = some (.cells Z 30 (0, 0)) from by rw [← hg5]; exact heap_alloc_new _ _)
              have HSg5 := Lib.hid (show w.heap.size ≤ g5 from by rw [← hg5]; exact HXv7.out.size)
              have HXv10 := Lib.hid (show Ext w ((v7).alloc (.cells Z 30)) from HXv7.out.alloc _)
              have HOv10 := Lib.hid (WBlk.ext' HNg4.out ((Ext.refl (v7)).alloc (.cells Z 30)))
              have HNE := Lib.hid (show g4 ≠ g5 from by have := lt_of_some HNg4.out; omega)
              go_wp2
              refine ⟨by first | exact HXv10.out | exact fun _ => HXv10.out, ?_⟩
              generalize (v7).alloc (.cells Z 30) = v10 at HXv10 HNg5 HOv10 ⊢
              clear hg5
              refine plan_one rfl (fun K hK => ?_)
              go_wp2_with fail
              refine (HRB.out _ HXv10.out).mono ?_
              rintro e v11 ⟨rfl, hx⟩
              have HXv11 := Lib.hid (HXv10.out.trans hx)
              have H4v11 := Lib.hid (WBlk.ext' HOv10.out hx)
              have H5v11 := Lib.hid (WBlk.ext' HNg5.out hx)
              clear hx
              go_wp2
              refine ⟨by first | exact HXv11.out | exact fun _ => HXv11.out, ?_⟩
              have HX8 := Lib.hid (HXv11.out.setRow (g := g4) HSg4.out VA)
              have HG8 := Lib.hid (setRow_heap _ g4 _ VA _ _ H4v11.out)
              have HF8 := Lib.hid (setRow_far (V := VA) HNE.out H5v11.out)
              refine plan_one rfl (fun K hK => ?_)
              go_wp2_with (with_reducible refine wpList_store_all rfl 30 (.tmp 4) (.tmp 31) rfl g4 Z VA rfl rfl H4v11.out HIA.out HZA.out HOA.out ?_)
              refine ⟨fun h => absurd h (by decide), ?_⟩
              generalize (v11).setRow g4 VA = w8 at HX8 HG8 HF8 ⊢
              have HX9 := Lib.hid (HX8.out.setRow (g := g5) HSg5.out VB)
              have HG9 := Lib.hid (setRow_heap _ g5 _ VB _ _ HF8.out)
              have HF9 := Lib.hid (setRow_far (V := VB) (Ne.symm HNE.out) HG8.out)
              refine plan_one rfl (fun K hK => ?_)
              go_wp2_with (with_reducible refine wpList_store_all rfl 30 (.tmp 5) (.tmp 35) rfl g5 Z VB rfl rfl HF8.out HIB.out HZB.out HOB.out ?_)
              refine ⟨fun h => absurd h (by decide), ?_⟩
              unfold wpPlan
              go_wp2_with fail
              go_meet
              exact ⟨g4, g5, rfl, rfl, HF9.out, HG9.out, HX9.out⟩
          · skip
            obtain ⟨g5, hg5⟩ : ∃ g, (v1).heap.size = g := ⟨_, rfl⟩
            have HNg5 := Lib.hid (show ((v1).alloc (.cells Z 30)).heap[g5]? = some (.cells Z 30 (0, 0)) from by rw [← hg5]; exact heap_alloc_new _ _)
            have HSg5 := Lib.hid (show w.heap.size ≤ g5 from by rw [← hg5]; exact HXv1.out.size)
            have HXv12 := Lib.hid (show Ext w ((v1).alloc (.cells Z 30)) from HXv1.out.alloc _)
            go_wp2
            refine ⟨by first | exact HXv12.out | exact fun _ => HXv12.out, ?_⟩
            generalize (v1).alloc (.cells Z 30) = v12 at HXv12 HNg5 ⊢
            clear hg5
            refine plan_two rfl rfl (fun K hK => ?_) (fun K hK => ?_)
            · skip
              go_wp2_with fail
              refine (HRB.out _ HXv12.out).mono ?_
              rintro e v13 ⟨rfl, hx⟩
              have HXv13 := Lib.hid (HXv12.out.trans hx)
              have H5v13 := Lib.hid (WBlk.ext' HNg5.out hx)
              clear hx
              go_wp2
              refine ⟨by first | exact HXv13.out | exact fun _ => HXv13.out, ?_⟩
              refine plan_one rfl (fun K hK => ?_)
              obtain ⟨g4, hg4⟩ : ∃ g, (v13).heap.size = g := ⟨_, rfl⟩
              have HNg4 := Lib.hid (show ((v13).alloc (.cells Z 30)).heap[g4]? = some (.cells Z 30 (0, 0)) from by rw [← hg4]; exact heap_alloc_new _ _)
              have HSg4 := Lib.hid (show w.heap.size ≤ g4 from by rw [← hg4]; exact HXv13.out.size)
              have HXv14 := Lib.hid (show Ext w ((v13).alloc (.cells Z 30)) from HXv13.out.alloc _)
              have HOv14 := Lib.hid (WBlk.ext' H5v13.out ((Ext.refl (v13)).alloc (.cells Z 30)))
              have HNE := Lib.hid (show g4 ≠ g5 from by have := lt_of_some H5v13.out; omega)
              go_wp2
              refine ⟨by first | exact HXv14.out | exact fun _ => HXv14.out, ?_⟩
              generalize (v13).alloc (.cells Z 30) = v14 at HXv14 HNg4 HOv14 ⊢
              clear hg4
              have HX8 := Lib.hid (HXv14.out.setRow (g := g4) HSg4.out VA)
              have HG8 := Lib.hid (setRow_heap _ g4 _ VA _ _ HNg4.out)
              have HF8 := Lib.hid (setRow_far (V := VA) HNE.out HOv14.out)
              refine plan_one rfl (fun K hK => ?_)
              go_wp2_with (with_reducible refine wpList_store_all rfl 30 (.tmp 4) (.tmp 31) rfl g4 Z VA rfl rfl HNg4.out HIA.out HZA.out HOA.out ?_)
              refine ⟨fun h => absurd h (by decide), ?_⟩
              generalize (v14).setRow g4 VA = w8 at HX8 HG8 HF8 ⊢
              have HX9 := Lib.hid (HX8.out.setRow (g := g5) HSg5.out VB)
              have HG9 := Lib.hid (setRow_heap _ g5 _ VB _ _ HF8.out)
              have HF9 := Lib.hid (setRow_far (V := VB) (Ne.symm HNE.out) HG8.out)
              refine plan_one rfl (fun K hK => ?_)
              go_wp2_with (with_reducible refine wpList_store_all rfl 30 (.tmp 5) (.tmp 35) rfl g5 Z VB rfl rfl HF8.out HIB.out HZB.out HOB.out ?_)
              refine ⟨fun h => absurd h (by decide), ?_⟩
              unfold wpPlan
              go_wp2_with fail
              go_meet
              exact ⟨g4, g5, rfl, rfl, HF9.out, HG9.out, HX9.out⟩
            · skip
              obtain ⟨g4, hg4⟩ : ∃ g, (v12).heap.size = g := ⟨_, rfl⟩
              have HNg4 := Lib.hid (show ((v12).alloc (.cells Z 30)).heap[g4]? = some (.cells Z 30 (0, 0)) from by rw [← hg4]; exact heap_alloc_new _ _)
              have HSg4 := Lib.hid (show w.heap.size ≤ g4 from by rw [← hg4]; exact HXv12.out.size)
              have HXv15 := Lib.hid (show Ext w ((v12).alloc (.cells Z 30)) from HXv12.out.alloc _)
              have HOv15 := Lib.hid (WBlk.ext' HNg5.out ((Ext.refl (v12)).alloc (.cells Z 30)))
              have HNE := Lib.hid (show g4 ≠ g5 from by have := lt_of_some HNg5.out; omega)
              go_wp2
              refine ⟨by first | exact HXv15.out | exact fun _ => HXv15.out, ?_⟩
              generalize (v12).alloc (.cells Z 30) = v15 at HXv15 HNg4 HOv15 ⊢
              clear hg4
              refine plan_one rfl (fun K hK => ?_)
              go_wp2_with fail
              refine (HRB.out _ HXv15.out).mono ?_
              rintro e v16 ⟨rfl, hx⟩
              have HXv16 := Lib.hid (HXv15.out.trans hx)
              have H4v16 := Lib.hid (WBlk.ext' HNg4.out hx)
              have H5v16 := Lib.hid (WBlk.ext' HOv15.out hx)
              clear hx
              go_wp2
              refine ⟨by first | exact HXv16.out | exact fun _ => HXv16.out, ?_⟩
              have HX8 := Lib.hid (HXv16.out.setRow (g := g4) HSg4.out VA)
              have HG8 := Lib.hid (setRow_heap _ g4 _ VA _ _ H4v16.out)
              have HF8 := Lib.hid (setRow_far (V := VA) HNE.out H5v16.out)
              refine plan_one rfl (fun K hK => ?_)
              go_wp2_with (with_reducible refine wpList_store_all rfl 30 (.tmp 4) (.tmp 31) rfl g4 Z VA rfl rfl H4v16.out HIA.out HZA.out HOA.out ?_)
              refine ⟨fun h => absurd h (by decide), ?_⟩
              generalize (v16).setRow g4 VA = w8 at HX8 HG8 HF8 ⊢
              have HX9 := Lib.hid (HX8.out.setRow (g := g5) HSg5.out VB)
              have HG9 := Lib.hid (setRow_heap _ g5 _ VB _ _ HF8.out)
              have HF9 := Lib.hid (setRow_far (V := VB) (Ne.symm HNE.out) HG8.out)
              refine plan_one rfl (fun K hK => ?_)
              go_wp2_with (with_reducible refine wpList_store_all rfl 30 (.tmp 5) (.tmp 35) rfl g5 Z VB rfl rfl HF8.out HIB.out HZB.out HOB.out ?_)
              refine ⟨fun h => absurd h (by decide), ?_⟩
              unfold wpPlan
              go_wp2_with fail
              go_meet
              exact ⟨g4, g5, rfl, rfl, HF9.out, HG9.out, HX9.out⟩
        · skip
          obtain ⟨g4, hg4⟩ : ∃ g, (u).heap.size = g := ⟨_, rfl⟩
          have HNg4 := Lib.hid (show ((u).alloc (.cells Z 30)).heap[g4]? = some (.cells Z 30 (0, 0)) from by rw [← hg4]; exact heap_alloc_new _ _)
          have HSg4 := Lib.hid (show w.heap.size ≤ g4 from by rw [← hg4]; exact HXU.out.size)
          have HXv17 := Lib.hid (show Ext w ((u).alloc (.cells Z 30)) from HXU.out.alloc _)
          go_wp2
          refine ⟨by first | exact HXv17.out | exact fun _ => HXv17.out, ?_⟩
          generalize (u).alloc (.cells Z 30) = v17 at HXv17 HNg4 ⊢
          clear hg4
          refine plan_two rfl rfl (fun K hK => ?_) (fun K hK => ?_)
          · skip
            go_wp2_with fail
            refine (HRA.out _ HXv17.out).mono ?_
            rintro e v18 ⟨rfl, hx⟩
            have HXv18 := Lib.hid (HXv17.out.trans hx)
            have H4v18 := Lib.hid (WBlk.ext' HNg4.out hx)
            clear hx
            go_wp2
            refine ⟨by first | exact HXv18.out | exact fun _ => HXv18.out, ?_⟩
            refine plan_two rfl rfl (fun K hK => ?_) (fun K hK => ?_)
            · skip
              go_wp2_with fail
              refine (HRB.out _ HXv18.out).mono ?_
              rintro e v19 ⟨rfl, hx⟩
              have HXv19 := Lib.hid (HXv18.out.trans hx)
              have H4v19 := Lib.hid (WBlk.ext' H4v18.out hx)
              clear hx
              go_wp2
              refine ⟨by first | exact HXv19.out | exact fun _ => HXv19.out, ?_⟩
              refine plan_one rfl (fun K hK => ?_)
              obtain ⟨g5, hg5⟩ : ∃ g, (v19).heap.size = g := ⟨_, rfl⟩
              have HNg5 := Lib.hid (show ((v19).alloc (.cells Z 30)).heap[g5]? = some (.cells Z 30 (0, 0)) from by rw [← hg5]; exact heap_alloc_new _ _)
              have HSg5 := Lib.hid (show w.heap.size ≤ g5 from by rw [← hg5]; exact HXv19.out.size)
              have HXv20 := Lib.hid (show Ext w ((v19).alloc (.cells Z 30)) from HXv19.out.alloc _)
              have HOv20 := Lib.hid (WBlk.ext' H4v19.out ((Ext.refl (v19)).alloc (.cells Z 30)))
              have HNE := Lib.hid (show g4 ≠ g5 from by have := lt_of_some H4v19.out; omega)
              go_wp2
              refine ⟨by first | exact HXv20.out | exact fun _ => HXv20.out, ?_⟩
              generalize (v19).alloc (.cells Z 30) = v20 at HXv20 HNg5 HOv20 ⊢
              clear hg5
              have HX8 := Lib.hid (HXv20.out.setRow (g := g4) HSg4.out VA)
              have HG8 := Lib.hid (setRow_heap _ g4 _ VA _ _ HOv20.out)
              have HF8 := Lib.hid (setRow_far (V := VA) HNE.out HNg5.out)
              refine plan_one rfl (fun K hK => ?_)
              go_wp2_with (with_reducible refine wpList_store_all rfl 30 (.tmp 4) (.tmp 31) rfl g4 Z VA rfl rfl HOv20.out HIA.out HZA.out HOA.out ?_)
              refine ⟨fun h => absurd h (by decide), ?_⟩
              generalize (v20).setRow g4 VA = w8 at HX8 HG8 HF8 ⊢
              have HX9 := Lib.hid (HX8.out.setRow (g := g5) HSg5.out VB)
              have HG9 := Lib.hid (setRow_heap _ g5 _ VB _ _ HF8.out)
              have HF9 := Lib.hid (setRow_far (V := VB) (Ne.symm HNE.out) HG8.out)
              refine plan_one rfl (fun K hK => ?_)
              go_wp2_with (with_reducible refine wpList_store_all rfl 30 (.tmp 5) (.tmp 35) rfl g5 Z VB rfl rfl HF8.out HIB.out HZB.out HOB.out ?_)
              refine ⟨fun h => absurd h (by decide), ?_⟩
              unfold wpPlan
              go_wp2_with fail
              go_meet
              exact ⟨g4, g5, rfl, rfl, HF9.out, HG9.out, HX9.out⟩
            · skip
              obtain ⟨g5, hg5⟩ : ∃ g, (v18).heap.size = g := ⟨_, rfl⟩
              have HNg5 := Lib.hid (show ((v18).alloc (.cells Z 30)).heap[g5]? = some (.cells Z 30 (0, 0)) from by rw [← hg5]; exact heap_alloc_new _ _)
              have HSg5 := Lib.hid (show w.heap.size ≤ g5 from by rw [← hg5]; exact HXv18.out.size)
              have HXv21 := Lib.hid (show Ext w ((v18).alloc (.cells Z 30)) from HXv18.out.alloc _)
              have HOv21 := Lib.hid (WBlk.ext' H4v18.out ((Ext.refl (v18)).alloc (.cells Z 30)))
              have HNE := Lib.hid (show g4 ≠ g5 from by have := lt_of_some H4v18.out; omega)
              go_wp2
              refine ⟨by first | exact HXv21.out | exact fun _ => HXv21.out, ?_⟩
              generalize (v18).alloc (.cells Z 30) = v21 at HXv21 HNg5 HOv21 ⊢
              clear hg5
              refine plan_one rfl (fun K hK => ?_)
              go_wp2_with fail
              refine (HRB.out _ HXv21.out).mono ?_
              rintro e v22 ⟨rfl, hx⟩
              have HXv22 := Lib.hid (HXv21.out.trans hx)
              have H4v22 := Lib.hid (WBlk.ext' HOv21.out hx)
              have H5v22 := Lib.hid (WBlk.ext' HNg5.out hx)
              clear hx
              go_wp2
              refine ⟨by first | exact HXv22.out | exact fun _ => HXv22.out, ?_⟩
              have HX8 := Lib.hid (HXv22.out.setRow (g := g4) HSg4.out VA)
              have HG8 := Lib.hid (setRow_heap _ g4 _ VA _ _ H4v22.out)
              have HF8 := Lib.hid (setRow_far (V := VA) HNE.out H5v22.out)
              refine plan_one rfl (fun K hK => ?_)
              go_wp2_with (with_reducible refine wpList_store_all rfl 30 (.tmp 4) (.tmp 31) rfl g4 Z VA rfl rfl H4v22.out HIA.out HZA.out HOA.out ?_)
              refine ⟨fun h => absurd h (by decide), ?_⟩
              generalize (v22).setRow g4 VA = w8 at HX8 HG8 HF8 ⊢
              have HX9 := Lib.hid (HX8.out.setRow (g := g5) HSg5.out VB)
              have HG9 := Lib.hid (setRow_heap _ g5 _ VB _ _ HF8.out)
              have HF9 := Lib.hid (setRow_far (V := VB) (Ne.symm HNE.out) HG8.out)
              refine plan_one rfl (fun K hK => ?_)
              go_wp2_with (with_reducible refine wpList_store_all rfl 30 (.tmp 5) (.tmp 35) rfl g5 Z VB rfl rfl HF8.out HIB.out HZB.out HOB.out ?_)
              refine ⟨fun h => absurd h (by decide), ?_⟩
              unfold wpPlan
              go_wp2_with fail
              go_meet
              exact ⟨g4, g5, rfl, rfl, HF9.out, HG9.out, HX9.out⟩
          · skip
            obtain ⟨g5, hg5⟩ : ∃ g, (v17).heap.size = g := ⟨_, rfl⟩
            have HNg5 := Lib.hid (show ((v17).alloc (.cells Z 30)).heap[g5]? = some (.cells Z 30 (0, 0)) from by rw [← hg5]; exact heap_alloc_new _ _)
            have HSg5 := Lib.hid (show w.heap.size ≤ g5 from by rw [← hg5]; exact HXv17.out.size)
            have HXv23 := Lib.hid (show Ext w ((v17).alloc (.cells Z 30)) from HXv17.out.alloc _)
            have HOv23 := Lib.hid (WBlk.ext' HNg4.out ((Ext.refl (v17)).alloc (.cells Z 30)))
            have HNE := Lib.hid (show g4 ≠ g5 from by have := lt_of_some HNg4.out; omega)
            go_wp2
            refine ⟨by first | exact HXv23.out | exact fun _ => HXv23.out, ?_⟩
            generalize (v17).alloc (.cells Z 30) = v23 at HXv23 HNg5 HOv23 ⊢
            clear hg5
            refine plan_one rfl (fun K hK => ?_)
            go_wp2_with fail
            refine (HRA.out _ HXv23.out).mono ?_
            rintro e v24 ⟨rfl, hx⟩
            have HXv24 := Lib.hid (HXv23.out.trans hx)
            have H4v24 := Lib.hid (WBlk.ext' HOv23.out hx)
            have H5v24 := Lib.hid (WBlk.ext' HNg5.out hx)
            clear hx
            go_wp2
            refine ⟨by first | exact HXv24.out | exact fun _ => HXv24.out, ?_⟩
            refine plan_one rfl (fun K hK => ?_)
            go_wp2_with fail
            refine (HRB.out _ HXv24.out).mono ?_
            rintro e v25 ⟨rfl, hx⟩
            have HXv25 := Lib.hid (HXv24.out.trans hx)
            have H4v25 := Lib.hid (WBlk.ext' H4v24.out hx)
            have H5v25 := Lib.hid (WBlk.ext' H5v24.out hx)
            clear hx
            go_wp2
            refine ⟨by first | exact HXv25.out | exact fun _ => HXv25.out, ?_⟩
            have HX8 := Lib.hid (HXv25.out.setRow (g := g4) HSg4.out VA)
            have HG8 := Lib.hid (setRow_heap _ g4 _ VA _ _ H4v25.out)
            have HF8 := Lib.hid (setRow_far (V := VA) HNE.out H5v25.out)
            refine plan_one rfl (fun K hK => ?_)
            go_wp2_with (with_reducible refine wpList_store_all rfl 30 (.tmp 4) (.tmp 31) rfl g4 Z VA rfl rfl H4v25.out HIA.out HZA.out HOA.out ?_)
            refine ⟨fun h => absurd h (by decide), ?_⟩
            generalize (v25).setRow g4 VA = w8 at HX8 HG8 HF8 ⊢
            have HX9 := Lib.hid (HX8.out.setRow (g := g5) HSg5.out VB)
            have HG9 := Lib.hid (setRow_heap _ g5 _ VB _ _ HF8.out)
            have HF9 := Lib.hid (setRow_far (V := VB) (Ne.symm HNE.out) HG8.out)
            refine plan_one rfl (fun K hK => ?_)
            go_wp2_with (with_reducible refine wpList_store_all rfl 30 (.tmp 5) (.tmp 35) rfl g5 Z VB rfl rfl HF8.out HIB.out HZB.out HOB.out ?_)
            refine ⟨fun h => absurd h (by decide), ?_⟩
            unfold wpPlan
            go_wp2_with fail
            go_meet
            exact ⟨g4, g5, rfl, rfl, HF9.out, HG9.out, HX9.out⟩
        · skip
          obtain ⟨g5, hg5⟩ : ∃ g, (u).heap.size = g := ⟨_, rfl⟩
          have HNg5 := Lib.hid (show ((u).alloc (.cells Z 30)).heap[g5]? = some (.cells Z 30 (0, 0)) from by rw [← hg5]; exact heap_alloc_new _ _)
          have HSg5 := Lib.hid (show w.heap.size ≤ g5 from by rw [← hg5]; exact HXU.out.size)
          have HXv26 := Lib.hid (show Ext w ((u).alloc (.cells Z 30)) from HXU.out.alloc _)
          go_wp2
          refine ⟨by first | exact HXv26.out | exact fun _ => HXv26.out, ?_⟩
          generalize (u).alloc (.cells Z 30) = v26 at HXv26 HNg5 ⊢
          clear hg5
          refine plan_two rfl rfl (fun K hK => ?_) (fun K hK => ?_)
          · skip
            go_wp2_with fail
            refine (HRA.out _ HXv26.out).mono ?_
            rintro e v27 ⟨rfl, hx⟩
            have HXv27 := Lib.hid (HXv26.out.trans hx)
            have H5v27 := Lib.hid (WBlk.ext' HNg5.out hx)
            clear hx
            go_wp2
            refine ⟨by first | exact HXv27.out | exact fun _ => HXv27.out, ?_⟩
            refine plan_two rfl rfl (fun K hK => ?_) (fun K hK => ?_)
            · skip
              go_wp2_with fail
              refine (HRB.out _ HXv27.out).mono ?_
              rintro e v28 ⟨rfl, hx⟩
              have HXv28 := Lib.hid (HXv27.out.trans hx)
              have H5v28 := Lib.hid (WBlk.ext' H5v27.out hx)
              clear hx
              go_wp2
              refine ⟨by first | exact HXv28.out | exact fun _ => HXv28.out, ?_⟩
              refine plan_one rfl (fun K hK => ?_)
              obtain ⟨g4, hg4⟩ : ∃ g, (v28).heap.size = g := ⟨_, rfl⟩
              have HNg4 := Lib.hid (show ((v28).alloc (.cells Z 30)).heap[g4]? = some (.cells Z 30 (0, 0)) from by rw [← hg4]; exact heap_alloc_new _ _)
              have HSg4 := Lib.hid (show w.heap.size ≤ g4 from by rw [← hg4]; exact HXv28.out.size)
              have HXv29 := Lib.hid (show Ext w ((v28).alloc (.cells Z 30)) from HXv28.out.alloc _)
              have HOv29 := Lib.hid (WBlk.ext' H5v28.out ((Ext.refl (v28)).alloc (.cells Z 30)))
              have HNE := Lib.hid (show g4 ≠ g5 from by have := lt_of_some H5v28.out; omega)
              go_wp2
              refine ⟨by first | exact HXv29.out | exact fun _ => HXv29.out, ?_⟩
              generalize (v28).alloc (.cells Z 30) = v29 at HXv29 HNg4 HOv29 ⊢
              clear hg4
              have HX8 := Lib.hid (HXv29.out.setRow (g := g4) HSg4.out VA)
              have HG8 := Lib.hid (setRow_heap _ g4 _ VA _ _ HNg4.out)
              have HF8 := Lib.hid (setRow_far (V := VA) HNE.out HOv29.out)
              refine plan_one rfl (fun K hK => ?_)
              go_wp2_with (with_reducible refine wpList_store_all rfl 30 (.tmp 4) (.tmp 31) rfl g4 Z VA rfl rfl HNg4.out HIA.out HZA.out HOA.out ?_)
              refine ⟨fun h => absurd h (by decide), ?_⟩
              generalize (v29).setRow g4 VA = w8 at HX8 HG8 HF8 ⊢
              have HX9 := Lib.hid (HX8.out.setRow (g := g5) HSg5.out VB)
              have HG9 := Lib.hid (setRow_heap _ g5 _ VB _ _ HF8.out)
              have HF9 := Lib.hid (setRow_far (V := VB) (Ne.symm HNE.out) HG8.out)
              refine plan_one rfl (fun K hK => ?_)
              go_wp2_with (with_reducible refine wpList_store_all rfl 30 (.tmp 5) (.tmp 35) rfl g5 Z VB rfl rfl HF8.out HIB.out HZB.out HOB.out ?_)
              refine ⟨fun h => absurd h (by decide), ?_⟩
              unfold wpPlan
              go_wp2_with fail
              go_meet
              exact ⟨g4, g5, rfl, rfl, HF9.out, HG9.out, HX9.out⟩
            · skip
              obtain ⟨g4, hg4⟩ : ∃ g, (v27).heap.size = g := ⟨_, rfl⟩
              have HNg4 := Lib.hid (show ((v27).alloc (.cells Z 30)).heap[g4]? = some (.cells Z 30 (0, 0)) from by rw [← hg4]; exact heap_alloc_new _ _)
              have HSg4 := Lib.hid (show w.heap.size ≤ g4 from by rw [← hg4]; exact HXv27.out.size)
              have HXv30 := Lib.hid (show Ext w ((v27).alloc (.cells Z 30)) from HXv27.out.alloc _)
              have HOv30 := Lib.hid (WBlk.ext' H5v27.out ((Ext.refl (v27)).alloc (.cells Z 30)))
              have HNE := Lib.hid (show g4 ≠ g5 from by have := lt_of_some H5v27.out; omega)
              go_wp2
              refine ⟨by first | exact HXv30.out | exact fun _ => HXv30.out, ?_⟩
              generalize (v27).alloc (.cells Z 30) = v30 at HXv30 HNg4 HOv30 ⊢
              clear hg4
              refine plan_one rfl (fun K hK => ?_)
              go_wp2_with fail
              refine (HRB.out _ HXv30.out).mono ?_
              rintro e v31 ⟨rfl, hx⟩
              have HXv31 := Lib.hid (HXv30.out.trans hx)
              have H4v31 := Lib.hid (WBlk.ext' HNg4.out hx)
              have H5v31 := Lib.hid (WBlk.ext' HOv30.out hx)
              clear hx
              go_wp2
              refine ⟨by first | exact HXv31.out | exact fun _ => HXv31.out, ?_⟩
              have HX8 := Lib.hid (HXv31.out.setRow (g := g4) HSg4.out VA)
              have HG8 := Lib.hid (setRow_heap _ g4 _ VA _ _ H4v31.out)
              have HF8 := Lib.hid (setRow_far (V := VA) HNE.out H5v31.out)
              refine plan_one rfl (fun K hK => ?_)
              go_wp2_with (with_reducible refine wpList_store_all rfl 30 (.tmp 4) (.tmp 31) rfl g4 Z VA rfl rfl H4v31.out HIA.out HZA.out HOA.out ?_)
              refine ⟨fun h => absurd h (by decide), ?_⟩
              generalize (v31).setRow g4 VA = w8 at HX8 HG8 HF8 ⊢
              have HX9 := Lib.hid (HX8.out.setRow (g := g5) HSg5.out VB)
              have HG9 := Lib.hid (setRow_heap _ g5 _ VB _ _ HF8.out)
              have HF9 := Lib.hid (setRow_far (V := VB) (Ne.symm HNE.out) HG8.out)
              refine plan_one rfl (fun K hK => ?_)
              go_wp2_with (with_reducible refine wpList_store_all rfl 30 (.tmp 5) (.tmp 35) rfl g5 Z VB rfl rfl HF8.out HIB.out HZB.out HOB.out ?_)
              refine ⟨fun h => absurd h (by decide), ?_⟩
              unfold wpPlan
              go_wp2_with fail
              go_meet
              exact ⟨g4, g5, rfl, rfl, HF9.out, HG9.out, HX9.out⟩
          · skip
            obtain ⟨g4, hg4⟩ : ∃ g, (v26).heap.size = g := ⟨_, rfl⟩
            have HNg4 := Lib.hid (show ((v26).alloc (.cells Z 30)).heap[g4]? = some (.cells Z 30 (0, 0)) from by rw [← hg4]; exact heap_alloc_new _ _)
            have HSg4 := Lib.hid (show w.heap.size ≤ g4 from by rw [← hg4]; exact HXv26.out.size)
            have HXv32 := Lib.hid (show Ext w ((v26).alloc (.cells Z 30)) from HXv26.out.alloc _)
            have HOv32 := Lib.hid (WBlk.ext' HNg5.out ((Ext.refl (v26)).alloc (.cells Z 30)))
            have HNE := Lib.hid (show g4 ≠ g5 from by have := lt_of_some HNg5.out; omega)
            go_wp2
            refine ⟨by first | exact HXv32.out | exact fun _ => HXv32.out, ?_⟩
            generalize (v26).alloc (.cells Z 30) = v32 at HXv32 HNg4 HOv32 ⊢
            clear hg4
            refine plan_one rfl (fun K hK => ?_)
            go_wp2_with fail
            refine (HRA.out _ HXv32.out).mono ?_
            rintro e v33 ⟨rfl, hx⟩
            have HXv33 := Lib.hid (HXv32.out.trans hx)
            have H4v33 := Lib.hid (WBlk.ext' HNg4.out hx)
            have H5v33 := Lib.hid (WBlk.ext' HOv32.out hx)
            clear hx
            go_wp2
            refine ⟨by first | exact HXv33.out | exact fun _ => HXv33.out, ?_⟩
            refine plan_one rfl (fun K hK => ?_)
            go_wp2_with fail
            refine (HRB.out _ HXv33.out).mono ?_
            rintro e v34 ⟨rfl, hx⟩
            have HXv34 := Lib.hid (HXv33.out.trans hx)
            have H4v34 := Lib.hid (WBlk.ext' H4v33.out hx)
            have H5v34 := Lib.hid (WBlk.ext' H5v33.out hx)
            clear hx
            go_wp2
            refine ⟨by first | exact HXv34.out | exact fun _ => HXv34.out, ?_⟩
            have HX8 := Lib.hid (HXv34.out.setRow (g := g4) HSg4.out VA)
            have HG8 := Lib.hid (setRow_heap _ g4 _ VA _ _ H4v34.out)
            have HF8 := Lib.hid (setRow_far (V := VA) HNE.out H5v34.out)
            refine plan_one rfl (fun K hK => ?_)
            go_wp2_with (with_reducible refine wpList_store_all rfl 30 (.tmp 4) (.tmp 31) rfl g4 Z VA rfl rfl H4v34.out HIA.out HZA.out HOA.out ?_)
            refine ⟨fun h => absurd h (by decide), ?_⟩
            generalize (v34).setRow g4 VA = w8 at HX8 HG8 HF8 ⊢
            have HX9 := Lib.hid (HX8.out.setRow (g := g5) HSg5.out VB)
            have HG9 := Lib.hid (setRow_heap _ g5 _ VB _ _ HF8.out)
            have HF9 := Lib.hid (setRow_far (V := VB) (Ne.symm HNE.out) HG8.out)
            refine plan_one rfl (fun K hK => ?_)
            go_wp2_with (with_reducible refine wpList_store_all rfl 30 (.tmp 5) (.tmp 35) rfl g5 Z VB rfl rfl HF8.out HIB.out HZB.out HOB.out ?_)
            refine ⟨fun h => absurd h (by decide), ?_⟩
            unfold wpPlan
            go_wp2_with fail
            go_meet
            exact ⟨g4, g5, rfl, rfl, HF9.out, HG9.out, HX9.out⟩
      case rest =>
        obtain ⟨g4, g5, rfl, rfl, h4, h5, hx⟩ := hcut
        have HX := Lib.hid hx
        obtain ⟨u, hu⟩ : ∃ u, wc.drew = u := ⟨_, rfl⟩
        have HXU := Lib.hid (show Ext w u from by rw [← hu]; exact hx.drew)
        have HH4 := Lib.hid (show u.heap[g4]? = some (.cells VA 30 (0, 0)) from by rw [← hu]; exact WBlk.ext' h4 (Ext.refl wc).drew)
        have HH5 := Lib.hid (show u.heap[g5]? = some (.cells VB 30 (0, 0)) from by rw [← hu]; exact WBlk.ext' h5 (Ext.refl wc).drew)
        clear h4 h5 hx HRA HRB
        go_wp2
        refine wp_region_plan (AfterH w) [0, 1, 2, 3, 4, 5, 6, 7] (.yes 0 (.yes 1 (.yes 2 (.yes 4 (.yes 5 (.yes 6 (.one 3 (.one 7 (.one 8 (.one 9 .done)))))))))) (by kernel_rfl) (fun c a a' w e h => ⟨e ▸ h.1, h.2⟩) (by kernel_rfl) (by rw [hu]; exact HXU.out) ?_
        rw [hu]
        clear hu
        refine plan_yes rfl (fun K hK => ?_); go_simp; refine ⟨_, fun _ _ => rfl, hK _ ?_⟩; clear hK K
        refine plan_yes rfl (fun K hK => ?_); go_simp; refine ⟨_, fun _ _ => rfl, hK _ ?_⟩; clear hK K
        refine plan_yes rfl (fun K hK => ?_); go_simp; refine ⟨_, fun _ _ => rfl, hK _ ?_⟩; clear hK K
        refine plan_yes rfl (fun K hK => ?_); go_simp; refine ⟨_, fun _ _ => rfl, hK _ ?_⟩; clear hK K
        refine plan_yes rfl (fun K hK => ?_); go_simp; refine ⟨_, fun _ _ => rfl, hK _ ?_⟩; clear hK K
        refine plan_yes rfl (fun K hK => ?_); go_simp; refine ⟨_, fun _ _ => rfl, hK _ ?_⟩; clear hK K
        refine plan_one rfl (fun K hK => ?_)
        go_wp2_with fail
        refine (HI1.out _ HXU.out).mono ?_
        rintro e w1 ⟨p1, rfl, hm1, hx1⟩
        have HX1 := Lib.hid hx1
        have HY1 := Lib.hid (HXU.out.trans hx1)
        have HM1 := Lib.hid hm1
        clear hm1 hx1
        go_wp2
        refine ⟨fun _ => HY1.out, ?_⟩
        refine plan_one rfl (fun K hK => ?_)
        go_wp2_with fail
        refine (HI2.out _ HY1.out).mono ?_
        rintro e w2 ⟨p2, rfl, hm2, hx2⟩
        have HX2 := Lib.hid (HX1.out.trans hx2)
        have HY2 := Lib.hid (HY1.out.trans hx2)
        have HM2 := Lib.hid hm2
        have HN1 := Lib.hid (HM1.out.ext hx2)
        have HVK := Lib.hid (show ∀ q, p1.ownBlock = some q → q < w1.heap.size from fun q e => (HM1.out.block q e).2)
        clear hm2 hx2
        go_wp2
        refine ⟨fun _ => HY2.out, ?_⟩
        refine plan_one rfl (fun K hK => ?_)
        refine wpList_append_rowsN rfl (.tmp 39) (.tmp 43) rfl u.heap.size w1.heap.size p1 p2 r1 r2 rfl rfl HN1.out HM2.out HVK.out HX1.out.size HF1.out HX2.out.size ?_
        intro p6 w6 hm6 hg6 hb6
        have HM6 := Lib.hid hm6
        have HX6 := Lib.hid (show Ext u w6 from HX2.out.more hg6 (fun q e => (HM1.out.block q e).1))
        clear hm6 hg6 hb6
        go_wp2
        refine ⟨fun h => absurd h (by decide), ?_⟩
        refine plan_one rfl (fun K hK => ?_)
        go_wp2
        refine ⟨fun h => absurd h (by decide), ?_⟩
        unfold wpPlan
        go_wp2
        obtain ⟨u6, hu6⟩ : ∃ u, w6.drew = u := ⟨_, rfl⟩
        have HXU6 := Lib.hid (show Ext u u6 from by rw [← hu6]; exact HX6.out.drew)
        have HMU := Lib.hid (show MineN u6 u.heap.size p6 (r1 ++ r2) from by rw [← hu6]; exact HM6.out.ext (Ext.refl w6).drew)
        obtain ⟨g6, hg6⟩ : ∃ g, u6.heap.size = g := ⟨_, rfl⟩
        have HG6 := Lib.hid hg6
        have HM0 := Lib.hid (show Mine (u6.alloc (.cells #[.int .u8 1] 5)) g6 (.slice (some ⟨g6, 0, none⟩) 1 1) [1] from by rw [← hg6]; exact mine_lit11 u6 [1] (by decide))
        have HX7 := Lib.hid (show Ext u6 (u6.alloc (.cells #[.int .u8 1] 5)) from (Ext.refl u6).alloc _)
        have HS7 := Lib.hid (show g6 ≤ (u6.alloc (.cells #[.int .u8 1] 5)).heap.size from by simp; omega)
        refine wp_region_plan (AfterH u6) [0, 1, 2, 3, 4, 5, 6] (.yes 0 (.yes 2 (.yes 4 (.one 1 (.one 3 (.one 5 (.one 6 (.one 7 (.one 8 .done))))))))) (by kernel_rfl) (fun c a a' w e h => ⟨e ▸ h.1, h.2⟩) (by kernel_rfl) (by rw [hu6]; exact Ext.refl u6) ?_
        rw [hu6]
        clear hu6
        refine plan_yes rfl (fun K hK => ?_); go_simp; refine ⟨_, fun _ _ => rfl, hK _ ?_⟩; clear hK K
        refine plan_yes rfl (fun K hK => ?_); go_simp; refine ⟨_, fun _ _ => rfl, hK _ ?_⟩; clear hK K
        refine plan_yes rfl (fun K hK => ?_); go_simp; refine ⟨_, fun _ _ => rfl, hK _ ?_⟩; clear hK K
        refine plan_one rfl (fun K hK => ?_)
        go_wp2
        refine ⟨fun _ => HX7.out, ?_⟩
        refine plan_one rfl (fun K hK => ?_)
        refine wpList_append_rd rfl (.tmp 46) (.tmp 47) rfl g6 _ [1] ya rfl HM0.out (some ⟨g4, 0, none⟩) 32 32 rfl HYA.out.1 (HLA.out _ g4 (WBlk.ext' HH4.out (HXU6.out.trans HX7.out))) (by rw [HYA.out.1]; decide) HS7.out ?_
        intro v8 w8 hm8 hg8 hb8
        have HM8 := Lib.hid hm8
        have HX8 := Lib.hid (show Ext u6 w8 from HX7.out.more hg8 (fun k e => by injection e with e; rw [← e, HG6.out]; exact Nat.le_refl _))
        clear hm8 hg8 hb8
        go_wp2
        refine ⟨fun _ => HX8.out, ?_⟩
        refine plan_one rfl (fun K hK => ?_)
        refine wpList_append_rd rfl (.tmp 48) (.tmp 49) rfl g6 _ ([1] ++ ya) yb rfl HM8.out (some ⟨g5, 0, none⟩) 32 32 rfl HYB.out.1 (HLB.out _ g5 (WBlk.ext' HH5.out (HXU6.out.trans HX8.out))) (by rw [HT1.out.1, HYB.out.1]; decide) (by have := HX8.out.size; have := HG6.out; omega) ?_
        intro v9 w9 hm9 hg9 hb9
        have HX9 := Lib.hid (show Ext u6 w9 from HX8.out.more hg9 (fun k e => by have := (HM8.out.block k e).1; have := HG6.out; omega))
        obtain ⟨B9, c9, rfl, hc9, hr9⟩ := hm9.slice HT2.out.2
        rw [HT2.out.1] at hc9 ⊢
        have HN9 := Lib.hid (mineN_lit hm9 HT2.out.2 (show g6 ≤ w9.heap.size from by have := HX9.out.size; have := HG6.out; omega))
        rw [HT2.out.1] at HN9
        rw [HRW.out] at HN9
        clear hm9 hg9 hb9 hc9 hr9
        go_wp2
        refine ⟨fun _ => HX9.out, ?_⟩
        have HX10 := Lib.hid (show Ext u6 (w9.alloc (.cells #[.slice B9 65 c9] 35)) from HX9.out.alloc _)
        have HMX := Lib.hid (HMU.out.ext HX10.out)
        have HVX := Lib.hid (show ∀ q, p6.ownBlock = some q → q < g6 from fun q e => by have := (HMU.out.block q e).2; have := HG6.out; omega)
        have HBX := Lib.hid (show u.heap.size ≤ g6 from by have := HXU6.out.size; have := HG6.out; omega)
        have HSX := Lib.hid (show u.heap.size ≤ (w9.alloc (.cells #[.slice B9 65 c9] 35)).heap.size from (HXU6.out.trans HX10.out).size)
        refine plan_one rfl (fun K hK => ?_)
        go_wp2
        refine ⟨fun _ => HX10.out, ?_⟩
        refine plan_one rfl (fun K hK => ?_)
        refine wpList_append_rowsN rfl (.tmp 45) (.tmp 51) rfl u.heap.size g6 p6 _ (r1 ++ r2) [1 :: (ya ++ yb)] rfl rfl HMX.out HN9.out HVX.out HBX.out HF2.out HSX.out ?_
        intro p11 w11 hm11 hg11 hb11
        have HM11 := Lib.hid (hm11.down (base' := w.heap.size) HXU.out.size)
        have HX11 := Lib.hid (show Ext w w11 from HXU.out.trans ((HXU6.out.trans HX10.out).more hg11 (fun q e => (HMX.out.block q e).1)))
        clear hm11 hg11 hb11
        go_wp2
        refine ⟨fun h => absurd h (by decide), ?_⟩
        refine plan_one rfl (fun K hK => ?_)
        go_wp2
        refine ⟨fun h => absurd h (by decide), ?_⟩
        unfold wpPlan
        go_wp2
        go_ret
        exact ⟨_, rfl, HM11.out, HX11.out⟩
end Go.Proofs.YthbfodmpoheahaaDoor

/-
  What path of layer 11's laws does, where it ends. Conditions: under what the document's Of is to do; no more than 2^16 - 1 bytes.
-/
namespace Go.Proofs.YthbfodmpoheahaaDoor
open Go.RowKit
open Pol (co Sm)

/-- What path does. -/
def PathS (t : List Nat) (n i : Nat) (ps : List (List Nat)) (w : World) (e : Ending) (w' : World) : Prop :=
  ∃ v, e = .returned (.tuple #[dgv (mpath sha t n i ps).1, v]) ∧ MineN w' w.heap.size v (mpath sha t n i ps).2 ∧ Ext w w'
theorem mpath_end (D : List Nat → List Nat) (t : List Nat) (n i : Nat) (ps : List (List Nat)) (h : n < 2 ∨ ps = []) : mpath D t n i ps = (lf D t, [0 :: t]) := by
  rw [mpath]
  by_cases h2 : n < 2
  · rw [dif_pos h2]
  · rw [dif_neg h2]
    rcases h with h | rfl
    · exact absurd h h2
    · rfl
theorem i64_pred (p : Nat) (h : p ≤ 1048577) : IntKind.i64.wrap ((p : Int) - 1) = (p : Int) - 1 := by rw [IntKind.wrap_i64]; omega
set_option maxHeartbeats 1600000 in
set_option maxRecDepth 100000 in
theorem law11_path_end (R : RefOf) (t : List Nat) (n p : Nat) (i : Int) (ps : List (List Nat)) (AT B : Option Addr) (ct cb : Nat) (w : World) (hr : Rd w AT t) (hl : t.length ≤ 65535) (hp : ps.length = p) (hpl : p ≤ 1048576) (h : n < 2 ∨ p = 0) (j : Nat) :
    Calls Tryd.prog 34 #[.slice AT t.length ct, .int .i64 i, .int .i64 (n : Int), .slice B p cb] w (PathS t n j ps w) := by
  have HME := Lib.hid (mpath_end sha t n j ps (h.imp id fun e => List.eq_nil_of_length_eq_zero (hp.trans e)))
  unfold PathS
  rw [HME.out]
  show Calls Tryd.prog 34 _ w (fun e w' => ∃ v, e = .returned (.tuple #[dgv (lf sha t), v]) ∧ MineN w' w.heap.size v [0 :: t] ∧ Ext w w')
  obtain ⟨g0, hg0⟩ : ∃ g, w.heap.size = g := ⟨_, rfl⟩
  have HW0 := Lib.hid hg0
  have HR := Lib.hid hr
  have HLF := Lib.hid (fun W (h : Rd W AT t) => ref11_leaf R t AT ct W h (by omega))
  have HT := Lib.hid (show ([0] ++ t).length = t.length + 1 ∧ Sm ([0] ++ t) from ⟨by simp, sm_app (fun i => by match i with | 0 => decide | i + 1 => simp [co]) hr.1⟩)
  have hz := zero_digest.1
  have HZ32 := Lib.hid (fun (_ : Unit) => show (bt 32 fun _ => 0).size = 32 from bt_size _ _)
  obtain ⟨Z, hZ⟩ : ∃ Z, (bt 32 fun _ => 0) = Z := ⟨_, rfl⟩
  rw [hZ] at hz HZ32
  obtain ⟨D, hD⟩ : ∃ D, lf sha t = D := ⟨_, rfl⟩
  rw [hD] at HLF ⊢
  have HV := Lib.hid (bt_dgc D)
  unfold dgv at HLF ⊢
  obtain ⟨V, hV⟩ : ∃ V, bt 32 (co D) = V := ⟨_, rfl⟩
  rw [hV] at HLF HV ⊢
  have HI9 := Lib.hid HV.out.info
  have HO9 := Lib.hid HV.out.one
  have HZ9 := Lib.hid (show Z.size = V.size from by rw [HV.out.1]; exact HZ32.out ())
  have hx1 := (Ext.refl w).alloc (.cells Z 30)
  have hr0 : (w.alloc (.cells Z 30)).heap[g0]? = some (.cells Z 30 (0, 0)) := by rw [← hg0]; exact heap_alloc_new w _
  have hs1 : (w.alloc (.cells Z 30)).heap.size = g0 + 1 := by rw [← hg0]; simp
  obtain ⟨w1, hw1⟩ : ∃ q, w.alloc (.cells Z 30) = q := ⟨_, rfl⟩
  rw [hw1] at hx1 hr0 hs1
  have HW1 := Lib.hid hw1
  have HX1 := Lib.hid hx1
  have HR0 := Lib.hid hr0
  have HZ1 := Lib.hid hs1
  have e1 := i64_pred p (by omega)
  have HNN := Lib.hid (show ([0] ++ t : List Nat) = 0 :: t from rfl)
  obtain ⟨m, hm⟩ : ∃ m, t.length = m := ⟨_, rfl⟩
  have HTL := Lib.hid hm
  rw [hm] at hl HLF HT ⊢
  have HLN := Lib.hid (show [0].length + t.length ≤ 140737488355328 from by rw [HTL.out]; simp; omega)
  clear hr hm hZ hD hV hx1 hr0 hs1 hw1 hp hl
  by_cases h2 : n < 2
  · have d1 : decide ((n : Int) ≤ 1) = true := decide_eq_true (by omega)
    have n1 : (n : Int) ≤ 1 := by omega
    clear h h2
    go_enter Tryd.func34, Tryd.ntmps34
    go_wp2_with (rw [HW1.out])
    refine (HLF.out _ (HR.out.ext HX1.out)).mono ?_
    rintro e w2 ⟨rfl, hx2⟩
    have HX2 := Lib.hid hx2
    have HY2 := Lib.hid (HX1.out.trans hx2)
    have HG2 := Lib.hid (WBlk.ext' HR0.out hx2)
    obtain ⟨g2, hg2⟩ : ∃ g, w2.heap.size = g := ⟨_, rfl⟩
    have HS2 := Lib.hid (show g0 + 1 ≤ g2 from by have := hx2.size; have := HZ1.out; omega)
    have HM0 := Lib.hid (show Mine (w2.alloc (.cells #[.int .u8 0] 5)) g2 (.slice (some ⟨g2, 0, none⟩) 1 1) [0] from by rw [← hg2]; exact mine_lit11 w2 [0] (by decide))
    have HX3 := Lib.hid (HY2.out.alloc (.cells #[.int .u8 0] 5))
    have HX23 := Lib.hid ((Ext.refl w2).alloc (.cells #[.int .u8 0] 5))
    have HS3 := Lib.hid (show g2 ≤ (w2.alloc (.cells #[.int .u8 0] 5)).heap.size from by simp; omega)
    clear hx2
    go_wp2_with (first
      | (at_builtin; go_loud (refine wpList_append_rd rfl (.tmp 28) (.tmp 29) rfl g2 _ [0] t rfl HM0.out AT m ct rfl HTL.out ((HR.out.ext HY2.out).ext ((Ext.refl _).alloc (.cells #[.int .u8 0] 5))) HLN.out HS3.out ?_; intro v5 w5 hm5 hg5 hb5; have hx25 := HX23.out.more hg5 (fun k e => by injection e with e; rw [← e, hg2]; exact Nat.le_refl _); have hs25 := hx25.size; obtain ⟨B5, c5, rfl, hc5, hr5⟩ := hm5.slice HT.out.2; have hn5 := mineN_lit hm5 HT.out.2 (show g2 ≤ w5.heap.size from by omega); rw [HT.out.1] at hn5 ⊢; have HG6 := Lib.hid (WBlk.ext' HG2.out (hx25.alloc (.cells #[.slice B5 (m + 1) c5] 35))); have HG7 := Lib.hid (setRow_heap _ g0 _ V _ _ HG6.out); have HX7 := Lib.hid (((HY2.out.trans hx25).alloc (.cells #[.slice B5 (m + 1) c5] 35)).setRow (g := g0) (by rw [HW0.out]; exact Nat.le_refl _) V); have HN7 := Lib.hid ((hn5.keep (grown_setRow _ g0 V) (by have := HS2.out; omega)).down (base' := w.heap.size) (by have := HS2.out; have := HW0.out; omega)); clear hm5 hg5 hb5 hc5 hr5 hn5 hx25 hs25))
      | with_reducible refine wpList_store_all rfl 30 (.tmp 8) (.tmp 27) rfl g0 Z V rfl rfl HG6.out HI9.out HZ9.out HO9.out ?_)
    exact ⟨rfl, .tuple #[.agg V, _], results_rt Tryd.results34 _ _ g0 30 V (0, 0) rfl HG7.out HI9.out, _, rfl, HN7.out, HX7.out⟩
  · have d1 : decide ((n : Int) ≤ 1) = false := decide_eq_false (by omega)
    have n1 : ¬ (n : Int) ≤ 1 := by omega
    have hp0 : p = 0 := h.resolve_left h2
    subst hp0
    clear h h2
    go_enter Tryd.func34, Tryd.ntmps34
    go_wp2_with (rw [HW1.out])
    refine (HLF.out _ (HR.out.ext HX1.out)).mono ?_
    rintro e w2 ⟨rfl, hx2⟩
    have HX2 := Lib.hid hx2
    have HY2 := Lib.hid (HX1.out.trans hx2)
    have HG2 := Lib.hid (WBlk.ext' HR0.out hx2)
    obtain ⟨g2, hg2⟩ : ∃ g, w2.heap.size = g := ⟨_, rfl⟩
    have HS2 := Lib.hid (show g0 + 1 ≤ g2 from by have := hx2.size; have := HZ1.out; omega)
    have HM0 := Lib.hid (show Mine (w2.alloc (.cells #[.int .u8 0] 5)) g2 (.slice (some ⟨g2, 0, none⟩) 1 1) [0] from by rw [← hg2]; exact mine_lit11 w2 [0] (by decide))
    have HX3 := Lib.hid (HY2.out.alloc (.cells #[.int .u8 0] 5))
    have HX23 := Lib.hid ((Ext.refl w2).alloc (.cells #[.int .u8 0] 5))
    have HS3 := Lib.hid (show g2 ≤ (w2.alloc (.cells #[.int .u8 0] 5)).heap.size from by simp; omega)
    clear hx2
    go_wp2_with (first
      | (at_builtin; go_loud (refine wpList_append_rd rfl (.tmp 28) (.tmp 29) rfl g2 _ [0] t rfl HM0.out AT m ct rfl HTL.out ((HR.out.ext HY2.out).ext ((Ext.refl _).alloc (.cells #[.int .u8 0] 5))) HLN.out HS3.out ?_; intro v5 w5 hm5 hg5 hb5; have hx25 := HX23.out.more hg5 (fun k e => by injection e with e; rw [← e, hg2]; exact Nat.le_refl _); have hs25 := hx25.size; obtain ⟨B5, c5, rfl, hc5, hr5⟩ := hm5.slice HT.out.2; have hn5 := mineN_lit hm5 HT.out.2 (show g2 ≤ w5.heap.size from by omega); rw [HT.out.1] at hn5 ⊢; have HG6 := Lib.hid (WBlk.ext' HG2.out (hx25.alloc (.cells #[.slice B5 (m + 1) c5] 35))); have HG7 := Lib.hid (setRow_heap _ g0 _ V _ _ HG6.out); have HX7 := Lib.hid (((HY2.out.trans hx25).alloc (.cells #[.slice B5 (m + 1) c5] 35)).setRow (g := g0) (by rw [HW0.out]; exact Nat.le_refl _) V); have HN7 := Lib.hid ((hn5.keep (grown_setRow _ g0 V) (by have := HS2.out; omega)).down (base' := w.heap.size) (by have := HS2.out; have := HW0.out; omega)); clear hm5 hg5 hb5 hc5 hr5 hn5 hx25 hs25))
      | with_reducible refine wpList_store_all rfl 30 (.tmp 8) (.tmp 27) rfl g0 Z V rfl rfl HG6.out HI9.out HZ9.out HO9.out ?_)
    exact ⟨rfl, .tuple #[.agg V, _], results_rt Tryd.results34 _ _ g0 30 V (0, 0) rfl HG7.out HI9.out, _, rfl, HN7.out, HX7.out⟩
end Go.Proofs.YthbfodmpoheahaaDoor

/-
  What path of layer 11's laws does with a longer proof, to the left. Conditions: under what the document's Of is to do; at most 2^20 texts, no more than 2^16 - 1 bytes.
-/
namespace Go.Proofs.YthbfodmpoheahaaDoor
open Go.RowKit
open Pol (co Sm)

theorem mpath_lo (D : List Nat → List Nat) (t : List Nat) {n : Nat} (i : Nat) (q : List (List Nat)) (x : List Nat) (h : 2 ≤ n) (hi : i < spl n) : mpath D t n i (q ++ [x]) = (nd D (mpath D t (spl n) i q).1 x, (mpath D t (spl n) i q).2 ++ [1 :: ((mpath D t (spl n) i q).1 ++ x)]) := by
  rw [mpath, dif_neg (by omega)]
  simp only [List.getLast?_concat, List.dropLast_concat, if_pos hi]
theorem mpath_hi (D : List Nat → List Nat) (t : List Nat) {n : Nat} (i : Nat) (q : List (List Nat)) (x : List Nat) (h : 2 ≤ n) (hi : ¬ i < spl n) : mpath D t n i (q ++ [x]) = (nd D x (mpath D t (n - spl n) (i - spl n) q).1, (mpath D t (n - spl n) (i - spl n) q).2 ++ [1 :: (x ++ (mpath D t (n - spl n) (i - spl n) q).1)]) := by
  rw [mpath, dif_neg (by omega)]
  simp only [List.getLast?_concat, List.dropLast_concat, if_neg hi]
theorem mpath_32 (t : List Nat) (n i : Nat) (p : List (List Nat)) : (mpath sha t n i p).1.length = 32 ∧ Sm (mpath sha t n i p).1 := by
  have h : ∃ z, (mpath sha t n i p).1 = sha z := by
    by_cases h2 : 2 ≤ n
    · rcases List.eq_nil_or_concat p with rfl | ⟨q, x, rfl⟩
      · rw [mpath_end sha t n i [] (.inr rfl)]; exact ⟨_, rfl⟩
      · rw [List.concat_eq_append]
        by_cases hi : i < spl n
        · rw [mpath_lo sha t i q x h2 hi]; exact ⟨_, rfl⟩
        · rw [mpath_hi sha t i q x h2 hi]; exact ⟨_, rfl⟩
    · rw [mpath_end sha t n i p (.inl (by omega))]; exact ⟨_, rfl⟩
  obtain ⟨z, e⟩ := h
  rw [e]
  exact ⟨sha_len z, sha_sm z⟩
theorem mpath_few (D : List Nat → List Nat) (t : List Nat) : ∀ (m n i : Nat) (p : List (List Nat)), p.length ≤ m → (mpath D t n i p).2.length ≤ m + 1
  | m, n, i, p, hm => by
    by_cases h2 : 2 ≤ n
    · rcases List.eq_nil_or_concat p with rfl | ⟨q, x, rfl⟩
      · rw [mpath_end D t n i [] (.inr rfl)]; simp
      · rw [List.concat_eq_append] at hm ⊢
        rw [List.length_append, List.length_singleton] at hm
        cases m with
        | zero => omega
        | succ m =>
          by_cases hi : i < spl n
          · rw [mpath_lo D t i q x h2 hi, List.length_append, List.length_singleton]
            have := mpath_few D t m (spl n) i q (by omega)
            omega
          · rw [mpath_hi D t i q x h2 hi, List.length_append, List.length_singleton]
            have := mpath_few D t m (n - spl n) (i - spl n) q (by omega)
            omega
    · rw [mpath_end D t n i p (.inl (by omega))]; simp
set_option maxHeartbeats 3200000 in
set_option maxRecDepth 100000 in
theorem law11_path_lo (R : RefOf) (t : List Nat) (n k : Nat) (i : Int) (qs : List (List Nat)) (x : List Nat) (AT B : Option Addr) (ct cb : Nat) (w : World) (h2 : 2 ≤ n) (hnb : n ≤ 1048576) (hk : spl n = k) (hik : i < (k : Int)) (hr : DRd w B (qs ++ [x])) (hc : qs.length + 1 ≤ cb) (hpl : qs.length + 1 ≤ 1048000)
    (ih : ∀ W, Ext w W → DRd W B qs → Calls Tryd.prog 34 #[.slice AT t.length ct, .int .i64 i, .int .i64 (k : Int), .slice B qs.length cb] W (PathS t k i.toNat qs W)) :
    Calls Tryd.prog 34 #[.slice AT t.length ct, .int .i64 i, .int .i64 (n : Int), .slice B (qs.length + 1) cb] w (PathS t n i.toNat (qs ++ [x]) w) := by
  obtain ⟨g0, hg0⟩ : ∃ g, w.heap.size = g := ⟨_, rfl⟩
  have HW0 := Lib.hid hg0
  have hz := zero_digest.1
  have HZ32 := Lib.hid (fun (_ : Unit) => show (bt 32 fun _ => 0).size = 32 from bt_size _ _)
  obtain ⟨Z, hZ⟩ : ∃ Z, (bt 32 fun _ => 0) = Z := ⟨_, rfl⟩
  rw [hZ] at hz HZ32
  have hk1 := spl_lt h2
  have hk0 := spl_pos n
  have HMP := Lib.hid (show mpath sha t n i.toNat (qs ++ [x]) = (nd sha (mpath sha t k i.toNat qs).1 x, (mpath sha t k i.toNat qs).2 ++ [1 :: ((mpath sha t k i.toNat qs).1 ++ x)]) from by rw [mpath_lo sha t i.toNat qs x h2 (by rw [hk]; omega), hk])
  have HY32 := Lib.hid (mpath_32 t k i.toNat qs)
  have HFW := Lib.hid (mpath_few sha t qs.length k i.toNat qs (Nat.le_refl _))
  obtain ⟨b, ob, rfl, hcell⟩ := hr.addr (by simp)
  have HXX := Lib.hid (show x.length = 32 ∧ Sm x from by
    have h := hr.one qs.length (by simp)
    rw [show ro (qs ++ [x]) qs.length = x from by unfold ro; simp] at h
    exact h)
  have HRQ := Lib.hid (show DRd w (some ⟨b, ob, none⟩) qs from by
    have h := hr.take qs.length
    rwa [List.take_left] at h)
  have HCL := Lib.hid (show ∀ j, j < 32 → w.cell? ⟨b, ob + qs.length * 32 + j, none⟩ = some (.int .u8 ((co x j : Nat) : Int)) from fun j hj => by
    have h := hcell qs.length (by simp) j hj
    rw [show ro (qs ++ [x]) qs.length = x from by unfold ro; simp] at h
    exact h)
  have HIH := Lib.hid (fun W (h : Ext w W) => ih W h (HRQ.out.ext h))
  unfold PathS at HIH ⊢
  rw [HMP.out]
  clear HMP ih hr hcell
  obtain ⟨MP, hMP⟩ : ∃ m, mpath sha t k i.toNat qs = m := ⟨_, rfl⟩
  rw [hMP] at HIH HY32 HFW ⊢
  clear hMP
  obtain ⟨y, rows⟩ := MP
  have HY := Lib.hid (show y.length = 32 ∧ Sm y from HY32.out)
  have HFR := Lib.hid (show rows.length ≤ qs.length + 1 from HFW.out)
  show Calls Tryd.prog 34 _ w (fun e w' => ∃ v, e = .returned (.tuple #[dgv (nd sha y x), v]) ∧ MineN w' w.heap.size v (rows ++ [1 :: (y ++ x)]) ∧ Ext w w')
  have HIH2 := Lib.hid (fun W (h : Ext w W) => show Calls Tryd.prog 34 _ W (fun e w' => ∃ v, e = .returned (.tuple #[dgv y, v]) ∧ MineN w' W.heap.size v rows ∧ Ext W w') from HIH.out W h)
  clear HY32 HFW HIH
  obtain ⟨p, hp⟩ : ∃ p, qs.length = p := ⟨_, rfl⟩
  rw [hp] at HCL HIH2 hc hpl HFR ⊢
  obtain ⟨m, hm⟩ : ∃ m, t.length = m := ⟨_, rfl⟩
  rw [hm] at HIH2 ⊢
  have HT1 := Lib.hid (show ([1] ++ y).length = 33 ∧ Sm ([1] ++ y) from ⟨by simp [HY.out.1], sm_app (fun i => by match i with | 0 => decide | i + 1 => simp [co]) HY.out.2⟩)
  have HT2 := Lib.hid (show ([1] ++ y ++ x).length = 65 ∧ Sm ([1] ++ y ++ x) from ⟨by simp [HY.out.1, HXX.out.1], sm_app HT1.out.2 HXX.out.2⟩)
  have HRW := Lib.hid (show ([1] ++ y ++ x : List Nat) = 1 :: (y ++ x) from rfl)
  have HOF := Lib.hid (fun A c W (h : Rd W A ([1] ++ y ++ x)) => (R ([1] ++ y ++ x) A c W h (by rw [HT2.out.1]; omega)).mono fun _ _ h => h.tells)
  have HLL := Lib.hid (show sha ([1] ++ y ++ x) = nd sha y x from rfl)
  rw [HT2.out.1, HLL.out] at HOF
  clear HLL
  obtain ⟨D, hD⟩ : ∃ D, nd sha y x = D := ⟨_, rfl⟩
  rw [hD] at HOF ⊢
  have HRY := Lib.hid (fun (W : World) (g : Nat) (h : W.heap[g]? = some (.cells (bt 32 (co y)) 30 (0, 0))) => rd_of_blk h HY.out.1 HY.out.2)
  have HRX := Lib.hid (fun (W : World) (h : Ext w W) => show Rd W (some ⟨b, ob + p * 32, none⟩) x from ⟨HXX.out.2, fun j hj => ⟨b, ob + p * 32, rfl, by rw [(h.below.cell (p := ⟨b, ob + p * 32 + j, none⟩) (block_lt_of_cell (HCL.out j (by rw [← HXX.out.1]; exact hj))))]; exact HCL.out j (by rw [← HXX.out.1]; exact hj)⟩⟩)
  have HVY := Lib.hid (bt_dgc y)
  have HVV := Lib.hid (bt_dgc D)
  unfold dgv at HIH2 HOF ⊢
  obtain ⟨VY, hVY⟩ : ∃ V, bt 32 (co y) = V := ⟨_, rfl⟩
  rw [hVY] at HIH2 HVY HRY
  obtain ⟨V, hV⟩ : ∃ V, bt 32 (co D) = V := ⟨_, rfl⟩
  rw [hV] at HOF HVV ⊢
  have HIY := Lib.hid HVY.out.info
  have HOY := Lib.hid HVY.out.one
  have HZY := Lib.hid (show Z.size = VY.size from by rw [HVY.out.1]; exact HZ32.out ())
  have HIV := Lib.hid HVV.out.info
  have HOV := Lib.hid HVV.out.one
  have HZV := Lib.hid (show Z.size = V.size from by rw [HVV.out.1]; exact HZ32.out ())
  have hx1 := (Ext.refl w).alloc (.cells Z 30)
  have hr0 : (w.alloc (.cells Z 30)).heap[g0]? = some (.cells Z 30 (0, 0)) := by rw [← hg0]; exact heap_alloc_new w _
  have hs1 : (w.alloc (.cells Z 30)).heap.size = g0 + 1 := by rw [← hg0]; simp
  obtain ⟨w1, hw1⟩ : ∃ q, w.alloc (.cells Z 30) = q := ⟨_, rfl⟩
  rw [hw1] at hx1 hr0 hs1
  have HW1 := Lib.hid hw1
  have HX1 := Lib.hid hx1
  have HR0 := Lib.hid hr0
  have HZ1 := Lib.hid hs1
  have hpb : p ≤ 1048577 := by omega
  have ht := fun W => run_to_dig (some ⟨b, ob, none⟩) (p + 1) cb p (by omega) W
  have d1 : decide ((n : Int) ≤ 1) = false := decide_eq_false (by omega)
  have n1 : ¬ (n : Int) ≤ 1 := by omega
  have n1b : ¬ n ≤ 1 := by omega
  have d2 : decide ((p : Int) < 0) = false := decide_eq_false (by omega)
  have n2 : ¬ (p : Int) < 0 := by omega
  have d3 : decide (i < (k : Int)) = true := decide_eq_true hik
  have n3 : i < (k : Int) := hik
  have hp0 : (0 : Int) ≤ (p : Int) := by omega
  have hp1 : (p : Int) < ((p + 1 : Nat) : Int) := by omega
  have hp2 : (p : Int) < (p : Int) + 1 := by omega
  have hp3 : p < p + 1 := by omega
  have e1 := w64_nat p hpb
  have e2 := w64_pred p hpb
  have e3 := w64_prd p hpb
  have e8 := i64_nat p hpb
  have HKN := Lib.hid (And.intro hk h2)
  have HNB := Lib.hid hnb
  have HPC := Lib.hid (And.intro hc hpl)
  clear hp hm hZ hD hVY hV hx1 hr0 hs1 hw1 hk hk0 hk1 h2 hnb hc hpl hpb hik
  go_enter Tryd.func34, Tryd.ntmps34
  go_wp2
  rw [HW1.out]
  go_loopg [11] 64 (fun g s wx => ∃ j K q : Nat, j + g = 64 ∧ 2 ^ j = K ∧ (j = 0 ∨ K < n) ∧ s = .int .i64 (K : Int) ∧ wx = w1.drewN q)
  case atStart => exact ⟨0, 1, 0, rfl, rfl, .inl rfl, rfl, rfl⟩
  case round =>
    obtain ⟨j', K, q, hjg, hK, hj', rfl, rfl⟩ := hrel
    have hnb := HNB.out
    have hKb : K ≤ 1099511627776 := by
      rcases hj' with rfl | h
      · rw [← hK]; decide
      · omega
    have hKp : 0 < K := by rw [← hK]; exact Nat.two_pow_pos j'
    have e9 : IntKind.i64.wrap (2 * (K : Int)) = 2 * (K : Int) := by rw [IntKind.wrap_i64]; omega
    by_cases h2 : 2 * K < n
    · have dd1 : decide (2 * (K : Int) < (n : Int)) = true := decide_eq_true (by omega)
      have dd2 : 2 * (K : Int) < (n : Int) := by omega
      cases gk with
      | zero =>
        have : j' = 64 := by omega
        subst this
        have h64 : (2 : Nat) ^ 64 = 18446744073709551616 := by decide
        omega
      | succ g =>
        have HK := Lib.hid hK
        have HJ := Lib.hid hjg
        clear hK hj' hjg hnb
        go_wp2
        go_roundg g
        case measure => omega
        case rel => exact ⟨j' + 1, 2 * K, q, by have := HJ.out; omega, by rw [Nat.pow_succ, HK.out]; omega, .inr h2, by go_num, rfl⟩
    · have dd1 : decide (2 * (K : Int) < (n : Int)) = false := decide_eq_false (by omega)
      have dd2 : ¬ 2 * (K : Int) < (n : Int) := by omega
      have hKR : K = k := by
        rw [← HKN.out.1]
        have h2n := HKN.out.2
        rcases hj' with rfl | h
        · have hk1 : K = 1 := by rw [← hK]
          have : n = 2 := by omega
          subst this
          rw [hk1]; decide
        · rw [spl_mid (e := j') (by omega) (by rw [Nat.pow_succ]; omega), hK]
      subst hKR
      have HXQ := Lib.hid (show Ext w1 (w1.drewN q) from (Ext.refl w1).drewN q)
      obtain ⟨wq, hwq⟩ : ∃ W, W = w1.drewN q := ⟨_, rfl⟩
      rw [← hwq] at HXQ ⊢
      clear hK hj' hjg hnb hKb hKp HKN hwq
      go_wp2_with fail
      refine (HIH2.out _ (HX1.out.trans HXQ.out)).mono ?_
      rintro e v4 ⟨v, rfl, hmn, hx4⟩
      have HX4 := Lib.hid (show Ext w1 v4 from HXQ.out.trans hx4)
      have HM4 := Lib.hid (hmn.down (base' := g0 + 1) (by have := HXQ.out.size; have := HZ1.out; omega))
      clear hmn hx4
      obtain ⟨gx, hgx⟩ : ∃ g, v4.heap.size = g := ⟨_, rfl⟩
      have HGX := Lib.hid (show (v4.alloc (.cells Z 30)).heap[gx]? = some (.cells Z 30 (0, 0)) from by rw [← hgx]; exact heap_alloc_new _ _)
      have HX45 := Lib.hid (show Ext v4 ((v4.alloc (.cells Z 30)).setRow gx VY) from Ext.setRow ((Ext.refl v4).alloc _) (by rw [← hgx]; exact Nat.le_refl _) VY)
      have HG5 := Lib.hid (setRow_heap _ gx _ VY _ _ HGX.out)
      have HS4 := Lib.hid hgx
      go_wp2_with (with_reducible refine wpList_store_all rfl 30 (.tmp 13) (.tmp 49) rfl gx Z VY rfl rfl HGX.out HIY.out HZY.out HOY.out ?_)
      generalize (v4.alloc (.cells Z 30)).setRow gx VY = w5 at HX45 HG5 ⊢
      clear hgx
      obtain ⟨u5, hu5⟩ : ∃ u, w5.drew = u := ⟨_, rfl⟩
      have HX5 := Lib.hid (show Ext v4 u5 from by rw [← hu5]; exact HX45.out.drew)
      have HGU := Lib.hid (show u5.heap[gx]? = some (.cells VY 30 (0, 0)) from by rw [← hu5]; exact WBlk.ext' HG5.out (Ext.refl w5).drew)
      obtain ⟨g6, hg6⟩ : ∃ g, u5.heap.size = g := ⟨_, rfl⟩
      have HM0 := Lib.hid (show Mine (u5.alloc (.cells #[.int .u8 1] 5)) g6 (.slice (some ⟨g6, 0, none⟩) 1 1) [1] from by rw [← hg6]; exact mine_lit11 u5 [1] (by decide))
      have HX6 := Lib.hid (show Ext u5 (u5.alloc (.cells #[.int .u8 1] 5)) from (Ext.refl u5).alloc _)
      have HS6 := Lib.hid (show g6 ≤ (u5.alloc (.cells #[.int .u8 1] 5)).heap.size from by simp; omega)
      have HG6 := Lib.hid hg6
      refine wp_region_plan (AfterH u5) [0, 1, 2, 3, 4, 5, 6, 7] (.yes 1 (.yes 3 (.yes 4 (.yes 5 (.yes 6 (.one 0 (.one 2 (.one 7 (.one 8 .done))))))))) (by kernel_rfl) (fun c a a' w e h => ⟨e ▸ h.1, h.2⟩) (by kernel_rfl) (by rw [hu5]; exact Ext.refl u5) ?_
      rw [hu5]
      clear hu5
      refine plan_yes rfl (fun K hK => ?_); go_simp; refine ⟨_, fun _ _ => rfl, hK _ ?_⟩; clear hK K
      refine plan_yes rfl (fun K hK => ?_); go_simp; refine ⟨_, fun _ _ => rfl, hK _ ?_⟩; clear hK K
      refine plan_yes rfl (fun K hK => ?_); go_simp; refine ⟨_, fun _ _ => rfl, hK _ ?_⟩; clear hK K
      refine plan_yes rfl (fun K hK => ?_); go_simp; refine ⟨_, fun _ _ => rfl, hK _ ?_⟩; clear hK K
      refine plan_yes rfl (fun K hK => ?_); go_simp; refine ⟨_, fun _ _ => rfl, hK _ ?_⟩; clear hK K
      refine plan_one rfl (fun K hK => ?_)
      go_wp2
      refine ⟨fun _ => HX6.out, ?_⟩
      refine plan_one rfl (fun K hK => ?_)
      refine wpList_append_rd rfl (.tmp 51) (.tmp 52) rfl g6 _ [1] y rfl HM0.out (some ⟨gx, 0, none⟩) 32 32 rfl HY.out.1 (HRY.out _ gx (WBlk.ext' HGU.out HX6.out)) (by rw [HY.out.1]; decide) HS6.out ?_
      intro v7 w7 hm7 hg7 hb7
      have HM7 := Lib.hid hm7
      have HX7 := Lib.hid (show Ext u5 w7 from HX6.out.more hg7 (fun k e => by injection e with e; rw [← e, HG6.out]; exact Nat.le_refl _))
      clear hm7 hg7 hb7
      go_wp2
      refine ⟨fun _ => HX7.out, ?_⟩
      refine plan_one rfl (fun K hK => ?_)
      refine wpList_append_rd rfl (.tmp 53) (.tmp 57) rfl g6 _ ([1] ++ y) x rfl HM7.out (some ⟨b, ob + p * 32, none⟩) 32 32 rfl HXX.out.1 (HRX.out _ ((HX1.out.trans HX4.out).trans (HX5.out.trans HX7.out))) (by rw [HT1.out.1, HXX.out.1]; decide) (by have := HX7.out.size; have := HG6.out; omega) ?_
      intro v8 w8 hm8 hg8 hb8
      have HX8 := Lib.hid (show Ext u5 w8 from HX7.out.more hg8 (fun k e => by have := (HM7.out.block k e).1; have := HG6.out; omega))
      obtain ⟨B8, c8, rfl, hc8, hr8⟩ := hm8.slice HT2.out.2
      rw [HT2.out.1] at hm8 hc8 ⊢
      have HM8 := Lib.hid hm8
      have HR8 := Lib.hid hr8
      clear hm8 hg8 hb8 hc8 hr8
      go_wp2
      refine ⟨fun _ => HX8.out, ?_⟩
      refine plan_one rfl (fun K hK => ?_)
      go_wp2
      refine ⟨fun h => absurd h (by decide), ?_⟩
      unfold wpPlan
      go_wp2_with fail
      refine (HOF.out B8 c8 w8 HR8.out).mono ?_
      rintro e w9 ⟨rfl, hx9⟩
      have HX9 := Lib.hid (show Ext u5 w9 from HX8.out.trans hx9)
      have HM9 := Lib.hid (mine_ext HM8.out hx9)
      have HN9 := Lib.hid (mineN_lit HM9.out HT2.out.2 (show g6 ≤ w9.heap.size from by have := HX9.out.size; have := HG6.out; omega))
      have HX10 := Lib.hid (show Ext u5 (w9.alloc (.cells #[.slice B8 65 c8] 35)) from HX9.out.alloc _)
      rw [HRW.out] at HN9
      have HM10 := Lib.hid (HM4.out.ext (HX5.out.trans HX10.out))
      have HG10 := Lib.hid (WBlk.ext' HR0.out ((HX4.out.trans HX5.out).trans HX10.out))
      have HS10 := Lib.hid (show g0 + 1 ≤ (w9.alloc (.cells #[.slice B8 65 c8] 35)).heap.size from by have := HX10.out.size; have := HX5.out.size; have := HX4.out.size; have := HZ1.out; omega)
      have HVB := Lib.hid (show ∀ k, v.ownBlock = some k → k < g6 from fun k e => by have := (HM4.out.block k e).2; have := HX5.out.size; have := HG6.out; omega)
      have HBB := Lib.hid (show g0 + 1 ≤ g6 from by have := HX4.out.size; have := HX5.out.size; have := HG6.out; have := HZ1.out; omega)
      have HLN := Lib.hid (show rows.length + [1 :: (y ++ x)].length ≤ 1048576 from by have := HFR.out; have := HPC.out.2; simp; omega)
      clear hx9
      obtain ⟨g9, hg9⟩ : ∃ g, w9.heap.size = g := ⟨_, rfl⟩
      rw [hg9] at HN9
      go_wp2_with (first | (at_builtin; go_loud (refine wpList_append_rowsN rfl (.tmp 61) (.tmp 63) rfl (g0 + 1) g6 v _ rows [1 :: (y ++ x)] rfl rfl HM10.out HN9.out HVB.out HBB.out HLN.out HS10.out ?_; intro v11 w11 hm11 hg11 hb11; have HG11 := Lib.hid ((hg11.block g0 (lt_of_some HG10.out) (fun e => by have := (HM10.out.block g0 e.symm).1; omega)).trans HG10.out); have hx11 := Ext.more ((HX1.out.trans HX4.out).trans (HX5.out.trans HX10.out)) hg11 (fun k e => by have := (HM10.out.block k e).1; have := HW0.out; omega); have HX12 := Lib.hid (hx11.setRow (g := g0) (by rw [HW0.out]; exact Nat.le_refl _) V); have HG12 := Lib.hid (setRow_heap _ g0 _ V _ _ HG11.out); have HM12 := Lib.hid ((hm11.keep (grown_setRow _ g0 V) (by omega)).down (base' := w.heap.size) (by have := HW0.out; omega)); clear hm11 hg11 hb11 hx11)) | with_reducible refine wpList_store_all rfl 30 (.tmp 8) (.tmp 60) rfl g0 Z V rfl rfl HG11.out HIV.out HZV.out HOV.out ?_)
      exact ⟨rfl, .tuple #[.agg V, _], results_rt Tryd.results34 _ _ g0 30 V (0, 0) rfl HG12.out HIV.out, _, rfl, HM12.out, HX12.out⟩
end Go.Proofs.YthbfodmpoheahaaDoor

/-
  What path of layer 11's laws does with a longer proof, to the right. Conditions: under what the document's Of is to do; at most 2^20 texts, no more than 2^16 - 1 bytes.
-/
namespace Go.Proofs.YthbfodmpoheahaaDoor
open Go.RowKit
open Pol (co Sm)
set_option maxHeartbeats 3200000 in
set_option maxRecDepth 100000 in
theorem law11_path_hi (R : RefOf) (t : List Nat) (n k : Nat) (i : Int) (qs : List (List Nat)) (x : List Nat) (AT B : Option Addr) (ct cb : Nat) (w : World) (h2 : 2 ≤ n) (hnb : n ≤ 1048576) (hk : spl n = k) (hik : ¬ i < (k : Int)) (hib : i < 9223372036854775808) (hr : DRd w B (qs ++ [x])) (hc : qs.length + 1 ≤ cb) (hpl : qs.length + 1 ≤ 1048000)
    (ih : ∀ W, Ext w W → DRd W B qs → Calls Tryd.prog 34 #[.slice AT t.length ct, .int .i64 (i - (k : Int)), .int .i64 ((n - k : Nat) : Int), .slice B qs.length cb] W (PathS t (n - k) (i.toNat - k) qs W)) :
    Calls Tryd.prog 34 #[.slice AT t.length ct, .int .i64 i, .int .i64 (n : Int), .slice B (qs.length + 1) cb] w (PathS t n i.toNat (qs ++ [x]) w) := by
  obtain ⟨g0, hg0⟩ : ∃ g, w.heap.size = g := ⟨_, rfl⟩
  have HW0 := Lib.hid hg0
  have hz := zero_digest.1
  have HZ32 := Lib.hid (fun (_ : Unit) => show (bt 32 fun _ => 0).size = 32 from bt_size _ _)
  obtain ⟨Z, hZ⟩ : ∃ Z, (bt 32 fun _ => 0) = Z := ⟨_, rfl⟩
  rw [hZ] at hz HZ32
  have hk1 := spl_lt h2
  have hk0 := spl_pos n
  have HMP := Lib.hid (show mpath sha t n i.toNat (qs ++ [x]) = (nd sha x (mpath sha t (n - k) (i.toNat - k) qs).1, (mpath sha t (n - k) (i.toNat - k) qs).2 ++ [1 :: (x ++ (mpath sha t (n - k) (i.toNat - k) qs).1)]) from by rw [mpath_hi sha t i.toNat qs x h2 (by rw [hk]; omega), hk])
  have HY32 := Lib.hid (mpath_32 t (n - k) (i.toNat - k) qs)
  have HFW := Lib.hid (mpath_few sha t qs.length (n - k) (i.toNat - k) qs (Nat.le_refl _))
  obtain ⟨b, ob, rfl, hcell⟩ := hr.addr (by simp)
  have HXX := Lib.hid (show x.length = 32 ∧ Sm x from by
    have h := hr.one qs.length (by simp)
    rw [show ro (qs ++ [x]) qs.length = x from by unfold ro; simp] at h
    exact h)
  have HRQ := Lib.hid (show DRd w (some ⟨b, ob, none⟩) qs from by
    have h := hr.take qs.length
    rwa [List.take_left] at h)
  have HCL := Lib.hid (show ∀ j, j < 32 → w.cell? ⟨b, ob + qs.length * 32 + j, none⟩ = some (.int .u8 ((co x j : Nat) : Int)) from fun j hj => by
    have h := hcell qs.length (by simp) j hj
    rw [show ro (qs ++ [x]) qs.length = x from by unfold ro; simp] at h
    exact h)
  have HIH := Lib.hid (fun W (h : Ext w W) => ih W h (HRQ.out.ext h))
  unfold PathS at HIH ⊢
  rw [HMP.out]
  clear HMP ih hr hcell
  obtain ⟨MP, hMP⟩ : ∃ m, mpath sha t (n - k) (i.toNat - k) qs = m := ⟨_, rfl⟩
  rw [hMP] at HIH HY32 HFW ⊢
  clear hMP
  obtain ⟨y, rows⟩ := MP
  have HY := Lib.hid (show y.length = 32 ∧ Sm y from HY32.out)
  have HFR := Lib.hid (show rows.length ≤ qs.length + 1 from HFW.out)
  show Calls Tryd.prog 34 _ w (fun e w' => ∃ v, e = .returned (.tuple #[dgv (nd sha x y), v]) ∧ MineN w' w.heap.size v (rows ++ [1 :: (x ++ y)]) ∧ Ext w w')
  have HIH2 := Lib.hid (fun W (h : Ext w W) => show Calls Tryd.prog 34 _ W (fun e w' => ∃ v, e = .returned (.tuple #[dgv y, v]) ∧ MineN w' W.heap.size v rows ∧ Ext W w') from HIH.out W h)
  clear HY32 HFW HIH
  obtain ⟨p, hp⟩ : ∃ p, qs.length = p := ⟨_, rfl⟩
  rw [hp] at HCL HIH2 hc hpl HFR ⊢
  obtain ⟨m, hm⟩ : ∃ m, t.length = m := ⟨_, rfl⟩
  rw [hm] at HIH2 ⊢
  obtain ⟨j, hj⟩ : ∃ j, i - (k : Int) = j := ⟨_, rfl⟩
  obtain ⟨r, hrr⟩ : ∃ r, n - k = r := ⟨_, rfl⟩
  have e4 : IntKind.i64.wrap (i - (k : Int)) = j := by rw [IntKind.wrap_i64]; omega
  have e6 : (n : Int) - (k : Int) = (r : Int) := by omega
  have HRB := Lib.hid (show r ≤ 1048577 by omega)
  have e7 := i64_nat r HRB.out
  rw [hj, hrr] at HIH2
  have HT1 := Lib.hid (show ([1] ++ x).length = 33 ∧ Sm ([1] ++ x) from ⟨by simp [HXX.out.1], sm_app (fun i => by match i with | 0 => decide | i + 1 => simp [co]) HXX.out.2⟩)
  have HT2 := Lib.hid (show ([1] ++ x ++ y).length = 65 ∧ Sm ([1] ++ x ++ y) from ⟨by simp [HY.out.1, HXX.out.1], sm_app HT1.out.2 HY.out.2⟩)
  have HRW := Lib.hid (show ([1] ++ x ++ y : List Nat) = 1 :: (x ++ y) from rfl)
  have HOF := Lib.hid (fun A c W (h : Rd W A ([1] ++ x ++ y)) => (R ([1] ++ x ++ y) A c W h (by rw [HT2.out.1]; omega)).mono fun _ _ h => h.tells)
  have HLL := Lib.hid (show sha ([1] ++ x ++ y) = nd sha x y from rfl)
  rw [HT2.out.1, HLL.out] at HOF
  clear HLL
  obtain ⟨D, hD⟩ : ∃ D, nd sha x y = D := ⟨_, rfl⟩
  rw [hD] at HOF ⊢
  have HRY := Lib.hid (fun (W : World) (g : Nat) (h : W.heap[g]? = some (.cells (bt 32 (co y)) 30 (0, 0))) => rd_of_blk h HY.out.1 HY.out.2)
  have HRX := Lib.hid (fun (W : World) (h : Ext w W) => show Rd W (some ⟨b, ob + p * 32, none⟩) x from ⟨HXX.out.2, fun j hj => ⟨b, ob + p * 32, rfl, by rw [(h.below.cell (p := ⟨b, ob + p * 32 + j, none⟩) (block_lt_of_cell (HCL.out j (by rw [← HXX.out.1]; exact hj))))]; exact HCL.out j (by rw [← HXX.out.1]; exact hj)⟩⟩)
  have HVY := Lib.hid (bt_dgc y)
  have HVV := Lib.hid (bt_dgc D)
  unfold dgv at HIH2 HOF ⊢
  obtain ⟨VY, hVY⟩ : ∃ V, bt 32 (co y) = V := ⟨_, rfl⟩
  rw [hVY] at HIH2 HVY HRY
  obtain ⟨V, hV⟩ : ∃ V, bt 32 (co D) = V := ⟨_, rfl⟩
  rw [hV] at HOF HVV ⊢
  have HIY := Lib.hid HVY.out.info
  have HOY := Lib.hid HVY.out.one
  have HZY := Lib.hid (show Z.size = VY.size from by rw [HVY.out.1]; exact HZ32.out ())
  have HIV := Lib.hid HVV.out.info
  have HOV := Lib.hid HVV.out.one
  have HZV := Lib.hid (show Z.size = V.size from by rw [HVV.out.1]; exact HZ32.out ())
  have hx1 := (Ext.refl w).alloc (.cells Z 30)
  have hr0 : (w.alloc (.cells Z 30)).heap[g0]? = some (.cells Z 30 (0, 0)) := by rw [← hg0]; exact heap_alloc_new w _
  have hs1 : (w.alloc (.cells Z 30)).heap.size = g0 + 1 := by rw [← hg0]; simp
  obtain ⟨w1, hw1⟩ : ∃ q, w.alloc (.cells Z 30) = q := ⟨_, rfl⟩
  rw [hw1] at hx1 hr0 hs1
  have HW1 := Lib.hid hw1
  have HX1 := Lib.hid hx1
  have HR0 := Lib.hid hr0
  have HZ1 := Lib.hid hs1
  have hpb : p ≤ 1048577 := by omega
  have ht := fun W => run_to_dig (some ⟨b, ob, none⟩) (p + 1) cb p (by omega) W
  have d1 : decide ((n : Int) ≤ 1) = false := decide_eq_false (by omega)
  have n1 : ¬ (n : Int) ≤ 1 := by omega
  have n1b : ¬ n ≤ 1 := by omega
  have d2 : decide ((p : Int) < 0) = false := decide_eq_false (by omega)
  have n2 : ¬ (p : Int) < 0 := by omega
  have d3 : decide (i < (k : Int)) = false := decide_eq_false hik
  have n3 : ¬ i < (k : Int) := hik
  have hp0 : (0 : Int) ≤ (p : Int) := by omega
  have hp1 : (p : Int) < ((p + 1 : Nat) : Int) := by omega
  have hp2 : (p : Int) < (p : Int) + 1 := by omega
  have hp3 : p < p + 1 := by omega
  have e1 := w64_nat p hpb
  have e2 := w64_pred p hpb
  have e3 := w64_prd p hpb
  have e8 := i64_nat p hpb
  have HKN := Lib.hid (And.intro hk h2)
  have HNB := Lib.hid hnb
  have HPC := Lib.hid (And.intro hc hpl)
  clear hp hm hZ hD hVY hV hx1 hr0 hs1 hw1 hk hk0 hk1 h2 hnb hc hpl hpb hik hib hj hrr
  go_enter Tryd.func34, Tryd.ntmps34
  go_wp2
  rw [HW1.out]
  go_loopg [11] 64 (fun g s wx => ∃ j K q : Nat, j + g = 64 ∧ 2 ^ j = K ∧ (j = 0 ∨ K < n) ∧ s = .int .i64 (K : Int) ∧ wx = w1.drewN q)
  case atStart => exact ⟨0, 1, 0, rfl, rfl, .inl rfl, rfl, rfl⟩
  case round =>
    obtain ⟨j', K, q, hjg, hK, hj', rfl, rfl⟩ := hrel
    have hnb := HNB.out
    have hKb : K ≤ 1099511627776 := by
      rcases hj' with rfl | h
      · rw [← hK]; decide
      · omega
    have hKp : 0 < K := by rw [← hK]; exact Nat.two_pow_pos j'
    have e9 : IntKind.i64.wrap (2 * (K : Int)) = 2 * (K : Int) := by rw [IntKind.wrap_i64]; omega
    by_cases h2 : 2 * K < n
    · have dd1 : decide (2 * (K : Int) < (n : Int)) = true := decide_eq_true (by omega)
      have dd2 : 2 * (K : Int) < (n : Int) := by omega
      cases gk with
      | zero =>
        have : j' = 64 := by omega
        subst this
        have h64 : (2 : Nat) ^ 64 = 18446744073709551616 := by decide
        omega
      | succ g =>
        have HK := Lib.hid hK
        have HJ := Lib.hid hjg
        clear hK hj' hjg hnb
        go_wp2
        go_roundg g
        case measure => omega
        case rel => exact ⟨j' + 1, 2 * K, q, by have := HJ.out; omega, by rw [Nat.pow_succ, HK.out]; omega, .inr h2, by go_num, rfl⟩
    · have dd1 : decide (2 * (K : Int) < (n : Int)) = false := decide_eq_false (by omega)
      have dd2 : ¬ 2 * (K : Int) < (n : Int) := by omega
      have hKR : K = k := by
        rw [← HKN.out.1]
        have h2n := HKN.out.2
        rcases hj' with rfl | h
        · have hk1 : K = 1 := by rw [← hK]
          have : n = 2 := by omega
          subst this
          rw [hk1]; decide
        · rw [spl_mid (e := j') (by omega) (by rw [Nat.pow_succ]; omega), hK]
      subst hKR
      have HXQ := Lib.hid (show Ext w1 (w1.drewN q) from (Ext.refl w1).drewN q)
      obtain ⟨wq, hwq⟩ : ∃ W, W = w1.drewN q := ⟨_, rfl⟩
      rw [← hwq] at HXQ ⊢
      clear hK hj' hjg hnb hKb hKp HKN hwq
      go_wp2_with fail
      refine (HIH2.out _ (HX1.out.trans HXQ.out)).mono ?_
      rintro e v4 ⟨v, rfl, hmn, hx4⟩
      have HX4 := Lib.hid (show Ext w1 v4 from HXQ.out.trans hx4)
      have HM4 := Lib.hid (hmn.down (base' := g0 + 1) (by have := HXQ.out.size; have := HZ1.out; omega))
      clear hmn hx4
      obtain ⟨gx, hgx⟩ : ∃ g, v4.heap.size = g := ⟨_, rfl⟩
      have HGX := Lib.hid (show (v4.alloc (.cells Z 30)).heap[gx]? = some (.cells Z 30 (0, 0)) from by rw [← hgx]; exact heap_alloc_new _ _)
      have HX45 := Lib.hid (show Ext v4 ((v4.alloc (.cells Z 30)).setRow gx VY) from Ext.setRow ((Ext.refl v4).alloc _) (by rw [← hgx]; exact Nat.le_refl _) VY)
      have HG5 := Lib.hid (setRow_heap _ gx _ VY _ _ HGX.out)
      have HS4 := Lib.hid hgx
      go_wp2_with (with_reducible refine wpList_store_all rfl 30 (.tmp 15) (.tmp 77) rfl gx Z VY rfl rfl HGX.out HIY.out HZY.out HOY.out ?_)
      generalize (v4.alloc (.cells Z 30)).setRow gx VY = w5 at HX45 HG5 ⊢
      clear hgx
      obtain ⟨u5, hu5⟩ : ∃ u, w5.drew = u := ⟨_, rfl⟩
      have HX5 := Lib.hid (show Ext v4 u5 from by rw [← hu5]; exact HX45.out.drew)
      have HGU := Lib.hid (show u5.heap[gx]? = some (.cells VY 30 (0, 0)) from by rw [← hu5]; exact WBlk.ext' HG5.out (Ext.refl w5).drew)
      obtain ⟨g6, hg6⟩ : ∃ g, u5.heap.size = g := ⟨_, rfl⟩
      have HM0 := Lib.hid (show Mine (u5.alloc (.cells #[.int .u8 1] 5)) g6 (.slice (some ⟨g6, 0, none⟩) 1 1) [1] from by rw [← hg6]; exact mine_lit11 u5 [1] (by decide))
      have HX6 := Lib.hid (show Ext u5 (u5.alloc (.cells #[.int .u8 1] 5)) from (Ext.refl u5).alloc _)
      have HS6 := Lib.hid (show g6 ≤ (u5.alloc (.cells #[.int .u8 1] 5)).heap.size from by simp; omega)
      have HG6 := Lib.hid hg6
      refine wp_region_plan (AfterH u5) [0, 1, 2, 3, 4, 5, 6, 7] (.yes 1 (.yes 2 (.yes 3 (.yes 4 (.yes 6 (.one 0 (.one 5 (.one 7 (.one 8 .done))))))))) (by kernel_rfl) (fun c a a' w e h => ⟨e ▸ h.1, h.2⟩) (by kernel_rfl) (by rw [hu5]; exact Ext.refl u5) ?_
      rw [hu5]
      clear hu5
      refine plan_yes rfl (fun K hK => ?_); go_simp; refine ⟨_, fun _ _ => rfl, hK _ ?_⟩; clear hK K
      refine plan_yes rfl (fun K hK => ?_); go_simp; refine ⟨_, fun _ _ => rfl, hK _ ?_⟩; clear hK K
      refine plan_yes rfl (fun K hK => ?_); go_simp; refine ⟨_, fun _ _ => rfl, hK _ ?_⟩; clear hK K
      refine plan_yes rfl (fun K hK => ?_); go_simp; refine ⟨_, fun _ _ => rfl, hK _ ?_⟩; clear hK K
      refine plan_yes rfl (fun K hK => ?_); go_simp; refine ⟨_, fun _ _ => rfl, hK _ ?_⟩; clear hK K
      refine plan_one rfl (fun K hK => ?_)
      go_wp2
      refine ⟨fun _ => HX6.out, ?_⟩
      refine plan_one rfl (fun K hK => ?_)
      refine wpList_append_rd rfl (.tmp 79) (.tmp 83) rfl g6 _ [1] x rfl HM0.out (some ⟨b, ob + p * 32, none⟩) 32 32 rfl HXX.out.1 (HRX.out _ ((HX1.out.trans HX4.out).trans (HX5.out.trans HX6.out))) (by rw [HXX.out.1]; decide) HS6.out ?_
      intro v7 w7 hm7 hg7 hb7
      have HM7 := Lib.hid hm7
      have HX7 := Lib.hid (show Ext u5 w7 from HX6.out.more hg7 (fun k e => by injection e with e; rw [← e, HG6.out]; exact Nat.le_refl _))
      clear hm7 hg7 hb7
      go_wp2
      refine ⟨fun _ => HX7.out, ?_⟩
      refine plan_one rfl (fun K hK => ?_)
      refine wpList_append_rd rfl (.tmp 84) (.tmp 85) rfl g6 _ ([1] ++ x) y rfl HM7.out (some ⟨gx, 0, none⟩) 32 32 rfl HY.out.1 (HRY.out _ gx (WBlk.ext' HGU.out HX7.out)) (by rw [HT1.out.1, HY.out.1]; decide) (by have := HX7.out.size; have := HG6.out; omega) ?_
      intro v8 w8 hm8 hg8 hb8
      have HX8 := Lib.hid (show Ext u5 w8 from HX7.out.more hg8 (fun k e => by have := (HM7.out.block k e).1; have := HG6.out; omega))
      obtain ⟨B8, c8, rfl, hc8, hr8⟩ := hm8.slice HT2.out.2
      rw [HT2.out.1] at hm8 hc8 ⊢
      have HM8 := Lib.hid hm8
      have HR8 := Lib.hid hr8
      clear hm8 hg8 hb8 hc8 hr8
      go_wp2
      refine ⟨fun _ => HX8.out, ?_⟩
      refine plan_one rfl (fun K hK => ?_)
      go_wp2
      refine ⟨fun h => absurd h (by decide), ?_⟩
      unfold wpPlan
      go_wp2_with fail
      refine (HOF.out B8 c8 w8 HR8.out).mono ?_
      rintro e w9 ⟨rfl, hx9⟩
      have HX9 := Lib.hid (show Ext u5 w9 from HX8.out.trans hx9)
      have HM9 := Lib.hid (mine_ext HM8.out hx9)
      have HN9 := Lib.hid (mineN_lit HM9.out HT2.out.2 (show g6 ≤ w9.heap.size from by have := HX9.out.size; have := HG6.out; omega))
      have HX10 := Lib.hid (show Ext u5 (w9.alloc (.cells #[.slice B8 65 c8] 35)) from HX9.out.alloc _)
      rw [HRW.out] at HN9
      have HM10 := Lib.hid (HM4.out.ext (HX5.out.trans HX10.out))
      have HG10 := Lib.hid (WBlk.ext' HR0.out ((HX4.out.trans HX5.out).trans HX10.out))
      have HS10 := Lib.hid (show g0 + 1 ≤ (w9.alloc (.cells #[.slice B8 65 c8] 35)).heap.size from by have := HX10.out.size; have := HX5.out.size; have := HX4.out.size; have := HZ1.out; omega)
      have HVB := Lib.hid (show ∀ k, v.ownBlock = some k → k < g6 from fun k e => by have := (HM4.out.block k e).2; have := HX5.out.size; have := HG6.out; omega)
      have HBB := Lib.hid (show g0 + 1 ≤ g6 from by have := HX4.out.size; have := HX5.out.size; have := HG6.out; have := HZ1.out; omega)
      have HLN := Lib.hid (show rows.length + [1 :: (x ++ y)].length ≤ 1048576 from by have := HFR.out; have := HPC.out.2; simp; omega)
      clear hx9
      obtain ⟨g9, hg9⟩ : ∃ g, w9.heap.size = g := ⟨_, rfl⟩
      rw [hg9] at HN9
      go_wp2_with (first | (at_builtin; go_loud (refine wpList_append_rowsN rfl (.tmp 89) (.tmp 91) rfl (g0 + 1) g6 v _ rows [1 :: (x ++ y)] rfl rfl HM10.out HN9.out HVB.out HBB.out HLN.out HS10.out ?_; intro v11 w11 hm11 hg11 hb11; have HG11 := Lib.hid ((hg11.block g0 (lt_of_some HG10.out) (fun e => by have := (HM10.out.block g0 e.symm).1; omega)).trans HG10.out); have hx11 := Ext.more ((HX1.out.trans HX4.out).trans (HX5.out.trans HX10.out)) hg11 (fun k e => by have := (HM10.out.block k e).1; have := HW0.out; omega); have HX12 := Lib.hid (hx11.setRow (g := g0) (by rw [HW0.out]; exact Nat.le_refl _) V); have HG12 := Lib.hid (setRow_heap _ g0 _ V _ _ HG11.out); have HM12 := Lib.hid ((hm11.keep (grown_setRow _ g0 V) (by omega)).down (base' := w.heap.size) (by have := HW0.out; omega)); clear hm11 hg11 hb11 hx11)) | with_reducible refine wpList_store_all rfl 30 (.tmp 8) (.tmp 88) rfl g0 Z V rfl rfl HG11.out HIV.out HZV.out HOV.out ?_)
      exact ⟨rfl, .tuple #[.agg V, _], results_rt Tryd.results34 _ _ g0 30 V (0, 0) rfl HG12.out HIV.out, _, rfl, HM12.out, HX12.out⟩
end Go.Proofs.YthbfodmpoheahaaDoor

/-
  What path of layer 11's laws does. Conditions: under what the document's Of is to do; at most 2^20 texts, no more than 2^16 - 1 bytes.
-/
namespace Go.Proofs.YthbfodmpoheahaaDoor
open Go.RowKit
open Pol (co Sm)

theorem law11_path (R : RefOf) (m : Nat) : ∀ (n : Nat) (i : Int) (t : List Nat) (ps : List (List Nat)) (AT B : Option Addr) (ct cb : Nat) (w : World), n ≤ m → n ≤ 1048576 → i < 9223372036854775808 → Rd w AT t → t.length ≤ 65535 → DRd w B ps → ps.length ≤ cb → ps.length ≤ 1048000 →
    Calls Tryd.prog 34 #[.slice AT t.length ct, .int .i64 i, .int .i64 (n : Int), .slice B ps.length cb] w (PathS t n i.toNat ps w) := by
  induction m with
  | zero =>
    intro n i t ps AT B ct cb w hm hn hi hr hl hp hc hpl
    exact law11_path_end R t n ps.length i ps AT B ct cb w hr hl rfl (by omega) (.inl (by omega)) _
  | succ m ih =>
    intro n i t ps AT B ct cb w hm hn hi hr hl hp hc hpl
    by_cases h2 : 2 ≤ n
    · rcases List.eq_nil_or_concat ps with rfl | ⟨qs, x, rfl⟩
      · exact law11_path_end R t n 0 i [] AT B ct cb w hr hl rfl (by omega) (.inr rfl) _
      · rw [List.concat_eq_append] at hp hc hpl ⊢
        rw [List.length_append, List.length_singleton] at hc hpl ⊢
        have hk1 := spl_lt h2
        have hk0 := spl_pos n
        by_cases hik : i < ((spl n : Nat) : Int)
        · exact law11_path_lo R t n (spl n) i qs x AT B ct cb w h2 hn rfl hik hp hc hpl (fun W h hq => ih (spl n) i t qs AT B ct cb W (by omega) (by omega) hi (hr.ext h) hl hq (by omega) (by omega))
        · refine law11_path_hi R t n (spl n) i qs x AT B ct cb w h2 hn rfl hik hi hp hc hpl (fun W h hq => ?_)
          have h3 := ih (n - spl n) (i - ((spl n : Nat) : Int)) t qs AT B ct cb W (by omega) (by omega) (by omega) (hr.ext h) hl hq (by omega) (by omega)
          rw [show (i - ((spl n : Nat) : Int)).toNat = i.toNat - spl n from by omega] at h3
          exact h3
    · exact law11_path_end R t n ps.length i ps AT B ct cb w hr hl rfl (by omega) (.inl (by omega)) _
end Go.Proofs.YthbfodmpoheahaaDoor

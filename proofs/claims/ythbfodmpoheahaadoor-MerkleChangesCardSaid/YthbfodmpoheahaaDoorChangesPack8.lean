/-
  Part 8 of the texts that the seat's proofs stand on; each part of it begins with its own sentence and conditions. Conditions: those that each theorem names.
-/
import Derived.Test.YthbfodmpoheahaaDoorChangesPack7
import Derived.Laws.BytesString
import Derived.Lib.AppendZeros
import Derived.Lib.Hide

/-
  What Of of layer 10 does. Conditions: no more than 2^16 bytes; the constants lie where they were laid.
-/
namespace Go.Proofs.YthbfodmpoheahaaDoor
open Go.RowKit
open Pol (co Sm)

theorem wl_congr {f f' : Nat → Nat} (h : ∀ i, i < 16 → f i = f' i) : ∀ n, wl f n = wl f' n
  | 0 => rfl
  | n + 1 => by
    rw [wl, wl, wl_congr h n]
    by_cases e : n < 16
    · rw [if_pos e, if_pos e, h n e]
    · rw [if_neg e, if_neg e]
theorem blk_congr {K H : List Nat} {f f' : Nat → Nat} (h : ∀ i, i < 16 → f i = f' i) : blk K f H = blk K f' H := by unfold blk; rw [wl_congr h 64]
/-- Blocks of one list, then of another. -/
theorem hsh_left {H K t u : List Nat} : ∀ n, 64 * n ≤ t.length → hsh H K (t ++ u) n = hsh H K t n
  | 0, _ => rfl
  | n + 1, h => by
    rw [hsh, hsh, hsh_left n (by omega)]
    refine blk_congr (fun i hi => ?_)
    have e : ∀ j, j < t.length → co (t ++ u) j = co t j := fun j hj => by unfold co; rw [List.getElem?_append_left hj]
    unfold word
    rw [e _ (by omega), e _ (by omega), e _ (by omega), e _ (by omega)]
theorem hsh_right {H K t u : List Nat} {m : Nat} (h : t.length = 64 * m) : ∀ n, hsh (hsh H K t m) K u n = hsh H K (t ++ u) (m + n)
  | 0 => by rw [hsh, Nat.add_zero, hsh_left m (by omega)]
  | n + 1 => by
    rw [hsh, hsh_right h n, ← Nat.add_assoc, hsh]
    refine blk_congr (fun i hi => ?_)
    have e : ∀ j k, j = t.length + k → co u k = co (t ++ u) j := fun j k hj => by
      subst hj
      unfold co
      rw [List.getElem?_append_right (by omega), Nat.add_sub_cancel_left]
    unfold word
    rw [e (64 * (m + n) + 4 * i) (64 * n + 4 * i) (by omega), e (64 * (m + n) + 4 * i + 1) (64 * n + 4 * i + 1) (by omega), e (64 * (m + n) + 4 * i + 2) (64 * n + 4 * i + 2) (by omega), e (64 * (m + n) + 4 * i + 3) (64 * n + 4 * i + 3) (by omega)]

/-- The block of an array of 32 bits' numbers behind a loop that writes another block. -/
theorem WBlk.grown {T : TypeId} {n : Nat} {w w' : World} {g d : Nat} {f : Nat → Nat} (h : WBlk T n w g f) (hg : w.grownBy w' (some d)) (hne : g ≠ d) : WBlk T n w' g f := h.keep hg (fun e => hne (by injection e))

set_option maxHeartbeats 3200000 in
set_option maxRecDepth 100000 in
theorem sh_of (b : List Nat) (A : Option Addr) (ca : Nat) (w : World) (hgl : GL w) (hr : Rd w A b) (hc : b.length ≤ ca) (hl : b.length ≤ 65536) :
    Calls Tryd.prog 22 #[.slice A b.length ca] w (DgS (sha b) w) := by
  obtain ⟨g0, hg0⟩ : ∃ g, w.heap.size = g := ⟨_, rfl⟩
  have HW0 := Lib.hid hg0
  obtain ⟨n, hn⟩ : ∃ n, b.length = n := ⟨_, rfl⟩
  have HN := Lib.hid hn
  have HR := Lib.hid hr
  have HGL := Lib.hid (fun W (h : Ext w W) => hgl.ext h)
  rw [hn] at hc hl ⊢
  obtain ⟨k, hk⟩ : ∃ k, 64 * (n / 64) = k := ⟨_, rfl⟩
  have hkn : k ≤ n := by omega
  have em : (n : Int).tmod 64 = ((n % 64 : Nat) : Int) := by rw [Int.tmod_eq_emod_of_nonneg (by omega)]; omega
  have em2 : (n : Int) - (n : Int) % 64 = (k : Int) := by omega
  have ew : wrap64 ((n : Int) - (n : Int) % 64) = (k : Int) := by unfold wrap64; omega
  have HK := Lib.hid hk
  have hT := (HGL.out w (Ext.refl w)).1
  obtain ⟨V0, hV0⟩ : ∃ V, dt 8 (co HH) = V := ⟨_, rfl⟩
  have HG0 := Lib.hid (show ∀ W, Ext w W → ∃ T, W.heap[0]? = some (.cells V0 T (0, 0)) from fun W h => by rw [← hV0]; exact (HGL.out W h).1)
  have HI0 := Lib.hid (show (Tryd.prog.info? 60).map (·.size) = some V0.size from by rw [← hV0]; exact info_state _)
  have hz := zero_digest.1
  have HZ32 := Lib.hid (fun (_ : Unit) => show (bt 32 fun _ => 0).size = 32 from bt_size _ _)
  obtain ⟨Z, hZ⟩ : ∃ Z, (bt 32 fun _ => 0) = Z := ⟨_, rfl⟩
  -- the slices, the two states
  have ht := run_to_u8 A n ca k (by omega)
  obtain ⟨X, hx, hxr, _⟩ := run_rest_u8 A n ca k hkn hc
  have HTK := Lib.hid (show (b.take k).length = k from by rw [List.length_take, HN.out]; omega)
  have HDK := Lib.hid (show (b.drop k).length = n - k from by rw [List.length_drop, HN.out])
  have HXR := Lib.hid (fun W (h : Ext w W) => show Rd W X (b.drop k) from by
    have h2 := hxr W b (HR.out.ext h) HN.out
    have e : tab (n - k) (fun j => co b (k + j)) = b.drop k := dr_ext (by rw [tab_len, HDK.out]) (fun i hi => by
      rw [tab_len] at hi
      rw [co_tab, if_pos hi]
      unfold co
      rw [List.getElem?_drop])
    rwa [e] at h2)
  obtain ⟨S1, hS1⟩ : ∃ S, hsh HH KK (b.take k) (k / 64) = S := ⟨_, rfl⟩
  obtain ⟨EB, hEB⟩ : ∃ l, endb (b.drop k) n = l := ⟨_, rfl⟩
  obtain ⟨N2, hN2⟩ : ∃ N, EB.length = N := ⟨_, rfl⟩
  obtain ⟨S2, hS2⟩ : ∃ S, hsh S1 KK EB (N2 / 64) = S := ⟨_, rfl⟩
  have hS1l : S1.length = 8 := by rw [← hS1]; exact hsh_len _ _ _ HH_len _
  have hS1w : W32 S1 := by rw [← hS1]; exact hsh_w32 _ _ _ HH_w32 _
  have HT1 := Lib.hid (fun W (h : Ext w W) => show Calls Tryd.prog 40 #[.agg V0, .slice A k ca] W (Tells (.agg (dt 8 (co S1))) W) from by
    have h1 := sh_through HH (b.take k) A ca W (HGL.out W h) HH_w32 HH_len ((HR.out.ext h).take k) (by rw [HTK.out]; omega) (by rw [HTK.out, ← HK.out]; omega) (by rw [HTK.out]; omega)
    rw [HTK.out, hV0, hS1] at h1
    exact h1)
  have HEN := Lib.hid (fun W (h : Ext w W) => show Calls Tryd.prog 41 #[.slice X (n - k) (ca - k), .int .i64 (n : Int)] W (Gives EB W) from by
    have h1 := sh_ending (b.drop k) X (ca - k) n W (HXR.out W h) (by rw [HDK.out, ← HK.out]; omega) (by omega)
    rw [HDK.out, hEB] at h1
    exact h1)
  have HE2 := Lib.hid (show N2 % 64 = 0 ∧ N2 ≤ 1048576 from by
    have hp : padz n = (119 - n % 64) % 64 := rfl
    rw [← hN2, ← hEB, endb_len, HDK.out, hp, ← HK.out]
    omega)
  have HT2 := Lib.hid (fun W (h : Ext w W) B c (hB : Rd W B EB) (hcB : N2 ≤ c) => show Calls Tryd.prog 40 #[.agg (dt 8 (co S1)), .slice B N2 c] W (Tells (.agg (dt 8 (co S2))) W) from by
    have h1 := sh_through S1 EB B c W (HGL.out W h) hS1w hS1l hB (by rw [hN2]; exact hcB) (by rw [hN2]; exact HE2.out.1) (by rw [hN2]; exact HE2.out.2)
    rw [hN2, hS2] at h1
    exact h1)
  have HSE := Lib.hid (fun (_ : Unit) => show hsh HH KK (padded b) ((padded b).length / 64) = S2 from by
    have e := endb_padded b k
    rw [HN.out, hEB] at e
    rw [← e, List.length_append, HTK.out, hN2, ← hS2, ← hS1, hsh_right (m := k / 64) (by rw [HTK.out, ← HK.out]; omega)]
    congr 1
    have := HK.out
    omega)
  have HNB := Lib.hid hN2
  have HS2L := Lib.hid (show S2.length = 8 from by rw [← hS2]; exact hsh_len _ _ _ hS1l _)
  have HS2W := Lib.hid (show W32 S2 from by rw [← hS2]; exact hsh_w32 _ _ _ hS1w _)
  have HIS := Lib.hid (fun S => info_state (co S))
  have HZL := Lib.hid (show dt 8 (fun _ => 0) = #[.int .u32 0, .int .u32 0, .int .u32 0, .int .u32 0, .int .u32 0, .int .u32 0, .int .u32 0, .int .u32 0] from rfl)
  have HGLD := Lib.hid (fun W (h : Ext w W) => show (Instr.loadAt 60 (.pointer (some ⟨0, 0, none⟩))).run Tryd.prog W = .ok (.agg V0) W from by
    obtain ⟨T, hT⟩ := HG0.out W h
    simp only [Instr.loadAt, Instr.sureAddr, Sem.run_bind, Sem.run_pure, Result.andThen]
    exact run_loadVar_row W 0 T 60 V0 (0, 0) _ hT Tryd.underlying60 rfl HI0.out)
  clear hEB hS1w hS1l hS1 hS2 hN2 hV0 hT hgl hr hn hxr hk
  rw [hZ] at hz HZ32
  go_enter Tryd.func22, Tryd.ntmps22
  go_wp2_with fail
  have HX1 := Lib.hid ((Ext.refl w).alloc (.cells Z 30))
  have HR0 := Lib.hid (show (w.alloc (.cells Z 30)).heap[g0]? = some (.cells Z 30 (0, 0)) from by rw [← hg0]; exact heap_alloc_new w _)
  have HS0 := Lib.hid (show g0 < (w.alloc (.cells Z 30)).heap.size from by rw [← hg0]; simp)
  generalize w.alloc (.cells Z 30) = w1 at HX1 HR0 HS0 ⊢
  obtain ⟨V1, hV1⟩ : ∃ V, dt 8 (co S1) = V := ⟨_, rfl⟩
  have HI1 := Lib.hid (info_state (co S1))
  have HSR1 := Lib.hid (show (dt 8 fun _ => 0).size = (dt 8 (co S1)).size from by rw [dt_size, dt_size])
  have HOR1 := Lib.hid (dt_one 8 (co S1))
  obtain ⟨V2, hV2⟩ : ∃ V, dt 8 (co S2) = V := ⟨_, rfl⟩
  have HI2 := Lib.hid (info_state (co S2))
  have HSR2 := Lib.hid (show (dt 8 (co S1)).size = (dt 8 (co S2)).size from by rw [dt_size, dt_size])
  have HOR2 := Lib.hid (dt_one 8 (co S2))
  have HVE2 := Lib.hid (fun (_ : Unit) => hV2)
  rw [hV1] at HT1 HT2 HI1 HSR1 HOR1 HSR2
  rw [hV2] at HT2 HI2 HSR2 HOR2
  clear hV1 hV2
  go_wp2
  refine wp_region_plan (AfterT w1) [0, 1, 2, 3, 4, 5] (.yes 0 (.yes 1 (.yes 2 (.yes 3 (.two 4 (.one 5 (.one 6 .done)) 5 (.one 4 (.one 6 .done))))))) (by kernel_rfl) (fun c a a' w e h => ⟨e ▸ h.1, h.2⟩) (by kernel_rfl) ((Ext.refl w1).drew) ?_
  refine plan_load rfl 60 (.global 0) rfl (.agg V0) (by first | rfl | go_simp) (fun W hW => HGLD.out W (HX1.out.trans hW)) ?_
  refine plan_yes rfl (fun K hK => ?_); go_simp; refine ⟨_, fun _ _ => rfl, hK _ ?_⟩; clear hK K
  refine plan_yes rfl (fun K hK => ?_); go_simp; refine ⟨_, fun _ _ => rfl, hK _ ?_⟩; clear hK K
  refine plan_yes rfl (fun K hK => ?_); go_simp; refine ⟨_, fun W _ => rfl, hK _ ?_⟩; clear hK K
  refine plan_two rfl rfl (fun K hK => ?_) (fun K hK => ?_)
  · go_wp2_with fail
    refine (HT1.out _ (HX1.out.drew)).mono ?_
    rintro e v4 ⟨rfl, hx4⟩
    have HX4 := Lib.hid (show AfterT w1 v4 from Ext.trans ((Ext.refl w1).drew) hx4)
    clear hx4
    go_wp2
    refine ⟨fun _ => HX4.out, ?_⟩
    refine plan_one rfl (fun K hK => ?_)
    go_wp2
    have HX6 := Lib.hid (show AfterT w1 (World.alloc v4 (.cells (dt 8 fun _ => 0) 60)) from Ext.alloc HX4.out _)
    have HB6 := Lib.hid (WBlk.new (T := 60) (n := 8) v4 (fun _ => 0))
    have HGX := Lib.hid (show w1.heap.size ≤ (v4).heap.size from Ext.size HX4.out)
    rw [HZL.out] at HX6 HB6
    refine ⟨fun _ => HX6.out, ?_⟩
    generalize hgx : (v4).heap.size = gx at HB6 HGX ⊢
    generalize World.alloc v4 _ = v6 at HX6 HB6 ⊢
    clear hgx
    refine plan_one rfl (fun K hK => ?_)
    have HG7 := Lib.hid (setRow_heap _ gx _ V1 _ _ HB6.out)
    have HX7 := Lib.hid (Ext.setRow HX6.out HGX.out V1)
    have hb0 := HB6.out
    unfold WBlk at hb0
    have HB0 := Lib.hid hb0
    clear hb0
    go_wp2_with (with_reducible refine wpList_store_all rfl 60 (.tmp 4) (.tmp 17) rfl gx (dt 8 fun _ => 0) V1 rfl rfl HB0.out HI1.out HSR1.out HOR1.out ?_)
    refine ⟨fun h => absurd h (by decide), ?_⟩
    unfold wpPlan
    obtain ⟨wz, hwz⟩ : ∃ q, World.setRow v6 gx V1 = q := ⟨_, rfl⟩
    rw [hwz] at HG7 HX7 ⊢
    clear hwz
    have HLS := Lib.hid (fun W (h : AfterT wz W) => run_load_all W gx 60 V1 8 59 Tryd.underlying60 (WBlk.ext' HG7.out h) HI1.out)
    have HXZ := Lib.hid (HX1.out.trans HX7.out)
    go_wp2
    refine wp_region_plan (AfterT wz) [0, 1, 2, 3, 4, 5, 6] (.yes 0 (.yes 1 (.yes 2 (.yes 3 (.yes 4 (.yes 5 (.one 6 (.one 7 (.one 8 .done))))))))) (by kernel_rfl) (fun c a a' w e h => ⟨e ▸ h.1, h.2⟩) (by kernel_rfl) ((Ext.refl wz).drew) ?_
    refine plan_load rfl 60 (.tmp 4) rfl (.agg V1) (by first | rfl | go_simp) (fun W hW => HLS.out W hW) ?_
    refine plan_yes rfl (fun K hK => ?_); go_simp; refine ⟨_, fun _ _ => rfl, hK _ ?_⟩; clear hK K
    refine plan_yes rfl (fun K hK => ?_); go_simp; refine ⟨_, fun _ _ => rfl, hK _ ?_⟩; clear hK K
    refine plan_yes rfl (fun K hK => ?_); go_simp; refine ⟨_, fun _ _ => rfl, hK _ ?_⟩; clear hK K
    refine plan_yes rfl (fun K hK => ?_); go_simp; refine ⟨_, fun _ _ => rfl, hK _ ?_⟩; clear hK K
    refine plan_yes rfl (fun K hK => ?_); go_simp; refine ⟨_, fun _ _ => rfl, hK _ ?_⟩; clear hK K
    refine plan_one rfl (fun K hK => ?_)
    go_wp2_with fail
    refine (HEN.out _ (HXZ.out.drew)).mono ?_
    rintro e v7 ⟨BE, cE, rfl, hcE, hrE, hx7⟩
    rw [HNB.out] at hcE ⊢
    have HX8 := Lib.hid (show AfterT wz v7 from Ext.trans ((Ext.refl wz).drew) hx7)
    have HRE := Lib.hid hrE
    clear hx7 hrE
    go_wp2
    refine ⟨fun _ => HX8.out, ?_⟩
    refine plan_one rfl (fun K hK => ?_)
    go_wp2_with fail
    refine (HT2.out _ (HXZ.out.trans HX8.out) BE cE HRE.out hcE).mono ?_
    rintro e v8 ⟨rfl, hx8⟩
    have HX9 := Lib.hid (show AfterT wz v8 from Ext.trans HX8.out hx8)
    clear hx8
    go_wp2
    refine ⟨fun h => absurd h (by decide), ?_⟩
    refine plan_one rfl (fun K hK => ?_)
    have HB8 := Lib.hid (WBlk.ext' HG7.out HX9.out)
    have HGA := Lib.hid (setRow_heap _ gx _ V2 _ _ HB8.out)
    have HXA := Lib.hid (Ext.setRow (HX7.out.trans HX9.out) HGX.out V2)
    go_wp2_with (with_reducible refine wpList_store_all rfl 60 (.tmp 4) (.tmp 25) rfl gx V1 V2 rfl rfl HB8.out HI2.out HSR2.out HOR2.out ?_)
    refine ⟨fun h => absurd h (by decide), ?_⟩
    unfold wpPlan
    obtain ⟨wy, hwy⟩ : ∃ q, World.setRow v8 gx V2 = q := ⟨_, rfl⟩
    rw [hwy] at HGA HXA ⊢
    clear hwy
    have HRY := Lib.hid (WBlk.ext' HR0.out HXA.out)
    have HSY := Lib.hid (show gx < wy.heap.size from (Array.getElem?_eq_some_iff.1 HGA.out).1)
    have HXY := Lib.hid (HX1.out.trans HXA.out)
    have HGY := Lib.hid (show WBlk 60 8 wy gx (co S2) from by unfold WBlk; rw [HVE2.out ()]; exact HGA.out)
    have hbs : Z.size = 32 := HZ32.out ()
    have hbo : Z.all (·.oneCell') = true := by rw [← hZ]; exact bt_one _ _
    have g1 := heap_alloc_new wy (.cells Z 30)
    have hst := store32 (wy.alloc (.cells Z 30)) wy.heap.size (fun _ => 0) (fun _ => 0) (by unfold DBlk; rw [hZ]; exact g1)
    rw [hZ, setRow_same _ _ _ _ g1] at hst
    have HG1 := Lib.hid (show DBlk (wy.alloc (.cells Z 30)) wy.heap.size (fun _ => 0) from by unfold DBlk; rw [hZ]; exact g1)
    have HXD := Lib.hid ((Ext.refl wy).alloc (.cells Z 30))
    clear g1
    go_wp2_with fail
    clear hst hbs hbo
    obtain ⟨db, hdb⟩ : ∃ db, wy.heap.size = db := ⟨_, rfl⟩
    have HDB := Lib.hid hdb
    rw [hdb] at HG1 HSY ⊢
    clear hdb
    have HRW := Lib.hid (WBlk.ext' HRY.out HXD.out)
    have HGW := Lib.hid (WBlk.ext HGY.out HXD.out)
    have HXW := Lib.hid (HXY.out.trans HXD.out)
    have HG0D := Lib.hid (show g0 < db from by have := (Array.getElem?_eq_some_iff.1 HRY.out).1; have := HDB.out; omega)
    generalize wy.alloc (.cells Z 30) = W at HG1 HXD HRW HGW HXW ⊢
    go_loopg [27] 32 (fun gk s27 wx => ∃ i : Nat, i + gk = 32 ∧ s27 = .int .i64 (i : Int) ∧ DBlk wx db (fun j => if j < i then digB S2 j else 0) ∧ W.grownBy wx (some db))
    case atStart => exact ⟨0, by omega, rfl, HG1.out.congr (fun i _ => by rw [if_neg (by omega)]), ⟨rfl, rfl, rfl, Nat.le_refl _, fun _ _ _ => rfl⟩⟩
    case round =>
      obtain ⟨i, hig, rfl, hb, hg2⟩ := hrel
      have HB2 := Lib.hid hb
      have HG2 := Lib.hid hg2
      have HIG := Lib.hid hig
      clear hb hg2 hig
      cases gk with
      | zero =>
        have hi32 : 32 ≤ i := by have := HIG.out; omega
        have hi : ¬ ((i : Int) < 32) := by omega
        have d1 : decide ((i : Int) < 32) = false := decide_eq_false hi
        have hbl := HB2.out.congr (f' := digB S2) (fun j hj => by rw [if_pos (by omega)])
        have hrw := (HG2.out.block g0 (by have := (Array.getElem?_eq_some_iff.1 HRW.out).1; exact this) (fun e => by injection e with e; have := HG0D.out; omega)).trans HRW.out
        have HBL := Lib.hid hbl
        have HRR := Lib.hid hrw
        have HG3 := Lib.hid (setRow_heap _ _ _ (bt 32 (digB S2)) _ _ hrw)
        have HX3 := Lib.hid ((HXW.out.more HG2.out (fun q e => by injection e with e; rw [← e, HW0.out]; exact Nat.le_of_lt HG0D.out)).setRow (g := g0) (by rw [HW0.out]; exact Nat.le_refl _) (bt 32 (digB S2)))
        have HIN := Lib.hid (info32 (digB S2))
        have HSZ := Lib.hid (show Z.size = (bt 32 (digB S2)).size by rw [bt_size, (HZ32.out ())])
        have HON := Lib.hid (fun (_ : Unit) => (bt_one 32 (digB S2)))
        have HV := Lib.hid (show Dgc (bt 32 (digB S2)) (sha b) from ⟨bt_size _ _, fun j hj => by
          rw [bt_at 32 _ j hj]
          unfold sha shaK
          rw [co_map _ _ _ (by rw [List.length_range]; exact hj), show co (List.range 32) j = j from by unfold co; rw [List.getElem?_range hj]; rfl, HSE.out ()]⟩)
        clear hi hi32 hbl hrw
        unfold DBlk at HBL
        generalize bt 32 (digB S2) = V at HBL HG3 HX3 HIN HSZ HON HV
        go_wp2_with (first | (with_reducible refine wpList_load_row rfl 30 (.tmp 5) rfl db rfl 30 V (0, 0) _ HBL.out Tryd.underlying30 rfl HIN.out ?_) | (with_reducible refine wpList_store_all rfl 30 (.tmp 2) (.tmp 43) rfl g0 Z V rfl rfl HRR.out HIN.out HSZ.out (HON.out ()) ?_))
        exact ⟨rfl, .agg V, results_cell_row Tryd.results22 _ _ g0 30 V (0, 0) _ rfl HG3.out Tryd.underlying30 rfl HIN.out, V, rfl, HV.out, HX3.out⟩
      | succ gk =>
        have hi : i < 32 := by have := HIG.out; omega
        have hiI : (i : Int) < 32 := by omega
        obtain ⟨q, hq⟩ : ∃ q, i / 4 = q := ⟨_, rfl⟩
        obtain ⟨r, hr⟩ : ∃ r, i % 4 = r := ⟨_, rfl⟩
        obtain ⟨v, hv⟩ : ∃ v, 24 - 8 * r = v := ⟨_, rfl⟩
        have hq8 : q < 8 := by omega
        have hcq := (WBlk.grown HGW.out HG2.out (by have := HSY.out; omega)).cell q hq8
        obtain ⟨x, hx⟩ : ∃ x, co S2 q = x := ⟨_, rfl⟩
        rw [hx] at hcq
        have hx32 : x < 4294967296 := by rw [← hx]; exact HS2W.out.at q
        have e1 : (i : Int) / 4 = (q : Int) := by omega
        have e1' : (i : Int).tdiv 4 = (q : Int) := by rw [Int.tdiv_eq_ediv_of_nonneg (by omega)]; omega
        have e2 : (i : Int) % 4 = (r : Int) := by omega
        have e2' : (i : Int).tmod 4 = (r : Int) := by rw [Int.tmod_eq_emod_of_nonneg (by omega)]; omega
        have e3 : 24 - 8 * (r : Int) = (v : Int) := by omega
        have e4 : wrap64 (8 * (r : Int)) = 8 * (r : Int) := by unfold wrap64; omega
        have e5 : wrap64 (24 - 8 * (r : Int)) = (v : Int) := by unfold wrap64; omega
        have hr4 : r < 4 := by omega
        have hqI : (q : Int) < 8 := by omega
        have hv24 : v ≤ 24 := by omega
        have hfz := HB2.out.frozen i
        have hck := HB2.out.cell i hi
        have HQ := Lib.hid (fun (_ : Unit) => (show digB S2 i = x / 2 ^ v % 256 from by unfold digB; rw [hq, hr, hv, hx]))
        clear hq hr hv hx
        go_wp2_with fail
        go_roundg gk
        case measure => omega
        case rel =>
          have ev : (x : Int) / 2 ^ v % 256 = ((digB S2 i : Nat) : Int) := by rw [(HQ.out ())]; simp
          refine ⟨i + 1, by have := HIG.out; omega, by go_num, ?_, HG2.out.trans (grown_set _ _ _ _)⟩
          rw [ev]
          exact (HB2.out.store i (digB S2 i)).congr (fun j _ => by
            unfold upd
            by_cases h : j = i
            · subst h; rw [if_pos rfl, if_pos (by omega)]
            · rw [if_neg h]
              show (if j < i then digB S2 j else 0) = if j < i + 1 then digB S2 j else 0
              by_cases h2 : j < i
              · rw [if_pos h2, if_pos (by omega)]
              · rw [if_neg h2, if_neg (by omega)])
  · go_wp2
    have HX6 := Lib.hid (show AfterT w1 (World.drew (World.alloc w1 (.cells (dt 8 fun _ => 0) 60))) from (Ext.alloc (Ext.refl w1) _).drew)
    have HB6 := Lib.hid (show WBlk 60 8 (World.drew (World.alloc w1 (.cells (dt 8 fun _ => 0) 60))) w1.heap.size (fun _ => 0) from WBlk.new (T := 60) (n := 8) w1 (fun _ => 0))
    rw [HZL.out] at HX6 HB6
    refine ⟨fun _ => HX6.out, ?_⟩
    generalize hgx : w1.heap.size = gx at HB6 ⊢
    have HGX := Lib.hid (Nat.le_of_eq hgx)
    generalize (World.alloc w1 _).drew = v6 at HX6 HB6 ⊢
    clear hgx
    refine plan_one rfl (fun K hK => ?_)
    go_wp2_with fail
    refine (HT1.out _ (HX1.out.trans HX6.out)).mono ?_
    rintro e v4 ⟨rfl, hx4⟩
    have HX4 := Lib.hid (show AfterT w1 v4 from Ext.trans HX6.out hx4)
    have HB4 := Lib.hid (WBlk.ext HB6.out hx4)
    clear hx4
    go_wp2
    refine ⟨fun _ => HX4.out, ?_⟩
    refine plan_one rfl (fun K hK => ?_)
    have HG7 := Lib.hid (setRow_heap _ gx _ V1 _ _ HB4.out)
    have HX7 := Lib.hid (Ext.setRow HX4.out HGX.out V1)
    have hb0 := HB4.out
    unfold WBlk at hb0
    have HB0 := Lib.hid hb0
    clear hb0
    go_wp2_with (with_reducible refine wpList_store_all rfl 60 (.tmp 4) (.tmp 17) rfl gx (dt 8 fun _ => 0) V1 rfl rfl HB0.out HI1.out HSR1.out HOR1.out ?_)
    refine ⟨fun h => absurd h (by decide), ?_⟩
    unfold wpPlan
    obtain ⟨wz, hwz⟩ : ∃ q, World.setRow v4 gx V1 = q := ⟨_, rfl⟩
    rw [hwz] at HG7 HX7 ⊢
    clear hwz
    have HLS := Lib.hid (fun W (h : AfterT wz W) => run_load_all W gx 60 V1 8 59 Tryd.underlying60 (WBlk.ext' HG7.out h) HI1.out)
    have HXZ := Lib.hid (HX1.out.trans HX7.out)
    go_wp2
    refine wp_region_plan (AfterT wz) [0, 1, 2, 3, 4, 5, 6] (.yes 0 (.yes 1 (.yes 2 (.yes 3 (.yes 4 (.yes 5 (.one 6 (.one 7 (.one 8 .done))))))))) (by kernel_rfl) (fun c a a' w e h => ⟨e ▸ h.1, h.2⟩) (by kernel_rfl) ((Ext.refl wz).drew) ?_
    refine plan_load rfl 60 (.tmp 4) rfl (.agg V1) (by first | rfl | go_simp) (fun W hW => HLS.out W hW) ?_
    refine plan_yes rfl (fun K hK => ?_); go_simp; refine ⟨_, fun _ _ => rfl, hK _ ?_⟩; clear hK K
    refine plan_yes rfl (fun K hK => ?_); go_simp; refine ⟨_, fun _ _ => rfl, hK _ ?_⟩; clear hK K
    refine plan_yes rfl (fun K hK => ?_); go_simp; refine ⟨_, fun _ _ => rfl, hK _ ?_⟩; clear hK K
    refine plan_yes rfl (fun K hK => ?_); go_simp; refine ⟨_, fun _ _ => rfl, hK _ ?_⟩; clear hK K
    refine plan_yes rfl (fun K hK => ?_); go_simp; refine ⟨_, fun _ _ => rfl, hK _ ?_⟩; clear hK K
    refine plan_one rfl (fun K hK => ?_)
    go_wp2_with fail
    refine (HEN.out _ (HXZ.out.drew)).mono ?_
    rintro e v7 ⟨BE, cE, rfl, hcE, hrE, hx7⟩
    rw [HNB.out] at hcE ⊢
    have HX8 := Lib.hid (show AfterT wz v7 from Ext.trans ((Ext.refl wz).drew) hx7)
    have HRE := Lib.hid hrE
    clear hx7 hrE
    go_wp2
    refine ⟨fun _ => HX8.out, ?_⟩
    refine plan_one rfl (fun K hK => ?_)
    go_wp2_with fail
    refine (HT2.out _ (HXZ.out.trans HX8.out) BE cE HRE.out hcE).mono ?_
    rintro e v8 ⟨rfl, hx8⟩
    have HX9 := Lib.hid (show AfterT wz v8 from Ext.trans HX8.out hx8)
    clear hx8
    go_wp2
    refine ⟨fun h => absurd h (by decide), ?_⟩
    refine plan_one rfl (fun K hK => ?_)
    have HB8 := Lib.hid (WBlk.ext' HG7.out HX9.out)
    have HGA := Lib.hid (setRow_heap _ gx _ V2 _ _ HB8.out)
    have HXA := Lib.hid (Ext.setRow (HX7.out.trans HX9.out) HGX.out V2)
    go_wp2_with (with_reducible refine wpList_store_all rfl 60 (.tmp 4) (.tmp 25) rfl gx V1 V2 rfl rfl HB8.out HI2.out HSR2.out HOR2.out ?_)
    refine ⟨fun h => absurd h (by decide), ?_⟩
    unfold wpPlan
    obtain ⟨wy, hwy⟩ : ∃ q, World.setRow v8 gx V2 = q := ⟨_, rfl⟩
    rw [hwy] at HGA HXA ⊢
    clear hwy
    have HRY := Lib.hid (WBlk.ext' HR0.out HXA.out)
    have HSY := Lib.hid (show gx < wy.heap.size from (Array.getElem?_eq_some_iff.1 HGA.out).1)
    have HXY := Lib.hid (HX1.out.trans HXA.out)
    have HGY := Lib.hid (show WBlk 60 8 wy gx (co S2) from by unfold WBlk; rw [HVE2.out ()]; exact HGA.out)
    have hbs : Z.size = 32 := HZ32.out ()
    have hbo : Z.all (·.oneCell') = true := by rw [← hZ]; exact bt_one _ _
    have g1 := heap_alloc_new wy (.cells Z 30)
    have hst := store32 (wy.alloc (.cells Z 30)) wy.heap.size (fun _ => 0) (fun _ => 0) (by unfold DBlk; rw [hZ]; exact g1)
    rw [hZ, setRow_same _ _ _ _ g1] at hst
    have HG1 := Lib.hid (show DBlk (wy.alloc (.cells Z 30)) wy.heap.size (fun _ => 0) from by unfold DBlk; rw [hZ]; exact g1)
    have HXD := Lib.hid ((Ext.refl wy).alloc (.cells Z 30))
    clear g1
    go_wp2_with fail
    clear hst hbs hbo
    obtain ⟨db, hdb⟩ : ∃ db, wy.heap.size = db := ⟨_, rfl⟩
    have HDB := Lib.hid hdb
    rw [hdb] at HG1 HSY ⊢
    clear hdb
    have HRW := Lib.hid (WBlk.ext' HRY.out HXD.out)
    have HGW := Lib.hid (WBlk.ext HGY.out HXD.out)
    have HXW := Lib.hid (HXY.out.trans HXD.out)
    have HG0D := Lib.hid (show g0 < db from by have := (Array.getElem?_eq_some_iff.1 HRY.out).1; have := HDB.out; omega)
    generalize wy.alloc (.cells Z 30) = W at HG1 HXD HRW HGW HXW ⊢
    go_loopg [27] 32 (fun gk s27 wx => ∃ i : Nat, i + gk = 32 ∧ s27 = .int .i64 (i : Int) ∧ DBlk wx db (fun j => if j < i then digB S2 j else 0) ∧ W.grownBy wx (some db))
    case atStart => exact ⟨0, by omega, rfl, HG1.out.congr (fun i _ => by rw [if_neg (by omega)]), ⟨rfl, rfl, rfl, Nat.le_refl _, fun _ _ _ => rfl⟩⟩
    case round =>
      obtain ⟨i, hig, rfl, hb, hg2⟩ := hrel
      have HB2 := Lib.hid hb
      have HG2 := Lib.hid hg2
      have HIG := Lib.hid hig
      clear hb hg2 hig
      cases gk with
      | zero =>
        have hi32 : 32 ≤ i := by have := HIG.out; omega
        have hi : ¬ ((i : Int) < 32) := by omega
        have d1 : decide ((i : Int) < 32) = false := decide_eq_false hi
        have hbl := HB2.out.congr (f' := digB S2) (fun j hj => by rw [if_pos (by omega)])
        have hrw := (HG2.out.block g0 (by have := (Array.getElem?_eq_some_iff.1 HRW.out).1; exact this) (fun e => by injection e with e; have := HG0D.out; omega)).trans HRW.out
        have HBL := Lib.hid hbl
        have HRR := Lib.hid hrw
        have HG3 := Lib.hid (setRow_heap _ _ _ (bt 32 (digB S2)) _ _ hrw)
        have HX3 := Lib.hid ((HXW.out.more HG2.out (fun q e => by injection e with e; rw [← e, HW0.out]; exact Nat.le_of_lt HG0D.out)).setRow (g := g0) (by rw [HW0.out]; exact Nat.le_refl _) (bt 32 (digB S2)))
        have HIN := Lib.hid (info32 (digB S2))
        have HSZ := Lib.hid (show Z.size = (bt 32 (digB S2)).size by rw [bt_size, (HZ32.out ())])
        have HON := Lib.hid (fun (_ : Unit) => (bt_one 32 (digB S2)))
        have HV := Lib.hid (show Dgc (bt 32 (digB S2)) (sha b) from ⟨bt_size _ _, fun j hj => by
          rw [bt_at 32 _ j hj]
          unfold sha shaK
          rw [co_map _ _ _ (by rw [List.length_range]; exact hj), show co (List.range 32) j = j from by unfold co; rw [List.getElem?_range hj]; rfl, HSE.out ()]⟩)
        clear hi hi32 hbl hrw
        unfold DBlk at HBL
        generalize bt 32 (digB S2) = V at HBL HG3 HX3 HIN HSZ HON HV
        go_wp2_with (first | (with_reducible refine wpList_load_row rfl 30 (.tmp 5) rfl db rfl 30 V (0, 0) _ HBL.out Tryd.underlying30 rfl HIN.out ?_) | (with_reducible refine wpList_store_all rfl 30 (.tmp 2) (.tmp 43) rfl g0 Z V rfl rfl HRR.out HIN.out HSZ.out (HON.out ()) ?_))
        exact ⟨rfl, .agg V, results_cell_row Tryd.results22 _ _ g0 30 V (0, 0) _ rfl HG3.out Tryd.underlying30 rfl HIN.out, V, rfl, HV.out, HX3.out⟩
      | succ gk =>
        have hi : i < 32 := by have := HIG.out; omega
        have hiI : (i : Int) < 32 := by omega
        obtain ⟨q, hq⟩ : ∃ q, i / 4 = q := ⟨_, rfl⟩
        obtain ⟨r, hr⟩ : ∃ r, i % 4 = r := ⟨_, rfl⟩
        obtain ⟨v, hv⟩ : ∃ v, 24 - 8 * r = v := ⟨_, rfl⟩
        have hq8 : q < 8 := by omega
        have hcq := (WBlk.grown HGW.out HG2.out (by have := HSY.out; omega)).cell q hq8
        obtain ⟨x, hx⟩ : ∃ x, co S2 q = x := ⟨_, rfl⟩
        rw [hx] at hcq
        have hx32 : x < 4294967296 := by rw [← hx]; exact HS2W.out.at q
        have e1 : (i : Int) / 4 = (q : Int) := by omega
        have e1' : (i : Int).tdiv 4 = (q : Int) := by rw [Int.tdiv_eq_ediv_of_nonneg (by omega)]; omega
        have e2 : (i : Int) % 4 = (r : Int) := by omega
        have e2' : (i : Int).tmod 4 = (r : Int) := by rw [Int.tmod_eq_emod_of_nonneg (by omega)]; omega
        have e3 : 24 - 8 * (r : Int) = (v : Int) := by omega
        have e4 : wrap64 (8 * (r : Int)) = 8 * (r : Int) := by unfold wrap64; omega
        have e5 : wrap64 (24 - 8 * (r : Int)) = (v : Int) := by unfold wrap64; omega
        have hr4 : r < 4 := by omega
        have hqI : (q : Int) < 8 := by omega
        have hv24 : v ≤ 24 := by omega
        have hfz := HB2.out.frozen i
        have hck := HB2.out.cell i hi
        have HQ := Lib.hid (fun (_ : Unit) => (show digB S2 i = x / 2 ^ v % 256 from by unfold digB; rw [hq, hr, hv, hx]))
        clear hq hr hv hx
        go_wp2_with fail
        go_roundg gk
        case measure => omega
        case rel =>
          have ev : (x : Int) / 2 ^ v % 256 = ((digB S2 i : Nat) : Int) := by rw [(HQ.out ())]; simp
          refine ⟨i + 1, by have := HIG.out; omega, by go_num, ?_, HG2.out.trans (grown_set _ _ _ _)⟩
          rw [ev]
          exact (HB2.out.store i (digB S2 i)).congr (fun j _ => by
            unfold upd
            by_cases h : j = i
            · subst h; rw [if_pos rfl, if_pos (by omega)]
            · rw [if_neg h]
              show (if j < i then digB S2 j else 0) = if j < i + 1 then digB S2 j else 0
              by_cases h2 : j < i
              · rw [if_pos h2, if_pos (by omega)]
              · rw [if_neg h2, if_neg (by omega)])
end Go.Proofs.YthbfodmpoheahaaDoor

/-
  What make([]byte, 0, n) does. Conditions: no more than 2^40 bytes.
-/
namespace Go.Proofs.YthbfodmpoheahaaDoor
open Go.RowKit
open Pol (co Sm)

set_option maxRecDepth 100000 in
/-- make([]byte, 0, n). -/
theorem run_make_cap (n : Nat) (N : Int) (hN : N = (n : Int)) (hn : n ≤ 1099511627776) (w : World) :
    (Instr.makeSlice 35 (.int .i64 0) (.int .i64 N)).run Tryd.prog w = .ok (.slice (some ⟨w.heap.size, 0, none⟩) 0 n) (w.alloc (.cells (bt n fun _ => 0) 5)) := by
  subst hN
  obtain ⟨i0, hi, hz0, hz1, hz2⟩ := info_parts u8_info
  have h := run_make (P := Tryd.prog) w 35 5 i0 (.int .u8 0) Tryd.underlying35 hi hz0 .i64 .i64 0 n (by omega) (by omega) (by rw [hz2]; omega) (by omega)
  simp only [Int.toNat_natCast, hz1, Nat.mul_one] at h
  rw [h, ← bt_made]
  rfl
theorem mine_made (w : World) (n : Nat) (hn : n ≤ 1099511627776) : Mine (w.alloc (.cells (bt n fun _ => 0) 5)) w.heap.size (.slice (some ⟨w.heap.size, 0, none⟩) 0 n) [] :=
  World.ownsRow_made w (bt n fun _ => 0) n (Nat.le_refl _) (by unfold maxLen; omega) (by rw [bt_size, Nat.mul_one])
end Go.Proofs.YthbfodmpoheahaaDoor

/-
  Digits of a text, one by one. Conditions: none; no function is named here.
-/
namespace Go.Proofs.YthbfodmpoheahaaDoor
open Go.RowKit
open Pol (co Sm)

theorem hxb_size (l : List Nat) : (hxb l).size = 2 * l.length := by
  show (hxs l).toArray.size = _
  rw [List.size_toArray, hxs_len]
theorem hxs_at : ∀ (l : List Nat) (i : Nat), i < l.length → (hxs l)[2 * i]? = some (hxd (co l i / 16)) ∧ (hxs l)[2 * i + 1]? = some (hxd (co l i % 16))
  | x :: l, 0, _ => ⟨rfl, rfl⟩
  | x :: l, i + 1, h => by
    have ih := hxs_at l i (by simpa using h)
    rw [Pol.co_succ]
    exact ⟨ih.1, ih.2⟩
  | [], _, h => by simp at h

theorem idxL (L : List UInt8) (k : IntKind) (i : Nat) (v : UInt8) (hv : L[i]? = some v) (W : World) : (Instr.index 9 (.string ⟨L.toArray⟩) (.int k (i : Int))).run Tryd.prog W = .ok (.int .u8 ((v.toNat : Nat) : Int)) W := by
  have hi : i < L.length := (List.getElem?_eq_some_iff.1 hv).1
  have hs : (⟨L.toArray⟩ : ByteArray).size = L.length := by show L.toArray.size = _; simp
  rw [run_index_string W 9 _ k _ Tryd.underlying9]
  rw [dif_pos ⟨by omega, by rw [hs]; omega⟩]
  have e : (⟨L.toArray⟩ : ByteArray)[(i : Int).toNat]'(by rw [hs]; omega) = v := by
    show L.toArray[(i : Int).toNat]'(by simp; omega) = v
    simp only [Int.toNat_natCast, List.getElem_toArray]
    exact (List.getElem?_eq_some_iff.1 hv).2
  rw [e]
def dgs : List UInt8 := [48, 49, 50, 51, 52, 53, 54, 55, 56, 57, 97, 98, 99, 100, 101, 102]
theorem dgs_at : ∀ x, x < 16 → dgs[x]? = some (hxd x) := by decide
end Go.Proofs.YthbfodmpoheahaaDoor

/-
  What Hex of layer 10 does. Conditions: none but that the digest reads as bytes.
-/
namespace Go.Proofs.YthbfodmpoheahaaDoor
open Go.RowKit
open Pol (co Sm)

/-- The digits as numbers. -/
def hxn (l : List Nat) : List Nat := (hxs l).map UInt8.toNat
theorem hxn_len (l : List Nat) : (hxn l).length = 2 * l.length := by unfold hxn; rw [List.length_map, hxs_len]
theorem hxn_sm (l : List Nat) : Sm (hxn l) := Pol.co_lt_of fun x hx => by
  unfold hxn at hx
  obtain ⟨y, _, rfl⟩ := List.mem_map.1 hx
  exact y.toNat_lt
theorem hxs_append : ∀ a b : List Nat, hxs (a ++ b) = hxs a ++ hxs b
  | [], _ => rfl
  | x :: a, b => by rw [List.cons_append, hxs, hxs, hxs_append a b]; rfl
theorem hxn_more (l : List Nat) (i : Nat) (h : i < l.length) : hxn (l.take (i + 1)) = hxn (l.take i) ++ [(hxd (co l i / 16)).toNat, (hxd (co l i % 16)).toNat] := by
  unfold hxn
  rw [List.take_succ_eq_append_getElem h, hxs_append, List.map_append]
  have e : co l i = l[i] := by unfold co; rw [List.getElem?_eq_getElem h]; rfl
  rw [e]
  rfl
theorem foldl_push : ∀ (L : List UInt8) (acc : ByteArray), (L.map (fun x => (x.toNat : Int))).foldl (fun (r : ByteArray) n => r.push (UInt8.ofNat n.toNat)) acc = ⟨acc.data ++ L.toArray⟩
  | [], acc => by simp
  | x :: L, acc => by
    rw [List.map_cons, List.foldl_cons, foldl_push L]
    apply ByteArray.ext
    simp [ByteArray.push]
theorem hex_text (w : World) (b o : Nat) (l : List Nat) (n c : Nat) (hn : (hxn l).length = n) (h : Rd w (some ⟨b, o, none⟩) (hxn l)) :
    (Conv.bytesToString (.slice (some ⟨b, o, none⟩) n c)).run Tryd.prog w = .ok (.string (hxb l)) w := by
  have e0 : ((hxs l).map (fun x => (x.toNat : Int))).map (Value.int .u8) = (List.range n).map (fun j => Value.int .u8 ((co (hxn l) j : Nat) : Int)) := by
    apply List.ext_getElem
    · rw [List.length_map, List.length_map, List.length_map, List.length_range, ← hn]; unfold hxn; rw [List.length_map]
    · intro j h1 h2
      have hj : j < (hxs l).length := by simpa using h1
      simp only [List.getElem_map, List.getElem_range]
      congr 2
      unfold hxn co
      rw [List.getElem?_map, List.getElem?_eq_getElem hj]
      rfl
  have hl := run_bytesToString (P := Tryd.prog) w ⟨b, o, none⟩ n c ((hxs l).map (fun x => (x.toNat : Int))) (by
    rw [e0]
    have h2 := run_loadCells (P := Tryd.prog) (w := w) ⟨b, o, none⟩ n (fun j => Value.int .u8 ((co (hxn l) j : Nat) : Int)) (fun j hj => by
      obtain ⟨b', o', e1, hc⟩ := h.2 j (by omega)
      injection e1 with e1
      injection e1 with e2 e3
      subst e2; subst e3
      have e : (⟨b, o, none⟩ : Addr).add j = ⟨b, o + j, none⟩ := by unfold Addr.add; split <;> simp_all
      rw [e]
      exact hc)
    rw [h2])
  rw [hl, foldl_push]
  congr 1
  congr 1
  apply ByteArray.ext
  simp [hxb]

set_option maxRecDepth 100000 in
theorem and15 : ∀ x : Nat, x < 256 → bits .and .u8 (x : Int) 15 = ((x % 16 : Nat) : Int) := by decide
set_option maxHeartbeats 1600000 in
set_option maxRecDepth 100000 in
theorem sh_hex (c : Array Value) (d : List Nat) (w : World) (hc : Dgc c d) (hd : d.length = 32) (hsm : Sm d) :
    Calls Tryd.prog 23 #[.agg c] w (HexS d w) := by
  unfold HexS
  have hi1 : (Tryd.prog.info? 30).map (·.size) = some c.size := by rw [hc.1]; exact zero_digest.2
  have hmk := fun W => run_make_cap 64 64 rfl (by decide) W
  obtain ⟨B64, hB64⟩ : ∃ B, (bt 64 fun _ => 0) = B := ⟨_, rfl⟩
  have HMM := Lib.hid (fun W => mine_made W 64 (by decide))
  rw [hB64] at HMM
  simp only [hB64] at hmk
  have hw1 : Ext w ((w.alloc (.cells c 30)).alloc (.cells B64 5)) := ((Ext.refl w).alloc _).alloc _
  have HX1 := Lib.hid hw1
  have HG1 := Lib.hid (show ((w.alloc (.cells c 30)).alloc (.cells B64 5)).heap[w.heap.size]? = some (.cells c 30 (0, 0)) from by rw [heap_alloc_old _ _ (by simp)]; exact heap_alloc_new w _)
  have HS1 := Lib.hid (show w.heap.size + 1 ≤ ((w.alloc (.cells c 30)).alloc (.cells B64 5)).heap.size from by simp)
  have HM1 := Lib.hid (show Mine ((w.alloc (.cells c 30)).alloc (.cells B64 5)) (w.heap.size + 1) (.slice (some ⟨w.heap.size + 1, 0, none⟩) 0 64) (hxn (d.take 0)) from by
    have h := HMM.out (w.alloc (.cells c 30))
    have e : (w.alloc (.cells c 30)).heap.size = w.heap.size + 1 := by simp
    rw [e] at h
    exact h)
  have HI1 := Lib.hid hi1
  have HCX := Lib.hid (fun (i : Nat) (hi : i < 32) => show ∀ W, (Instr.index 30 (.agg c) (.int .i64 (i : Int))).run Tryd.prog W = .ok (.int .u8 ((co d i : Nat) : Int)) W from fun W => idx_arr Tryd.underlying30 (by kernel_rfl) (by kernel_rfl) ⟨_, rfl⟩ _ i _ hi (hc.2 i hi) W)
  have HDX := Lib.hid (fun (i : Nat) (hi : i < 16) => show ∀ W, (Instr.index 9 (.string { data := #[48, 49, 50, 51, 52, 53, 54, 55, 56, 57, 97, 98, 99, 100, 101, 102] }) (.int .u8 (i : Int))).run Tryd.prog W = .ok (.int .u8 (((hxd i).toNat : Nat) : Int)) W from fun W => idxL dgs .u8 i (hxd i) (dgs_at i hi) W)
  have HMO := Lib.hid (fun i (hi : i < 32) => hxn_more d i (by rw [hd]; exact hi))
  have HSM := Lib.hid (fun i => show co d i < 256 from hsm i)
  have HLN := Lib.hid (fun i (hi : i ≤ 32) => show (hxn (d.take i)).length = 2 * i from by rw [hxn_len, List.length_take, hd, Nat.min_eq_left hi])
  have HAL := Lib.hid (show d.take 32 = d from by rw [← hd, List.take_length])
  clear hc hd hsm hi1 hB64 hw1
  go_enter Tryd.func23, Tryd.ntmps23
  go_wp2_with (with_reducible refine wpList_load_row rfl 30 (.tmp 1) rfl w.heap.size rfl 30 c (0, 0) _ HG1.out Tryd.underlying30 rfl HI1.out ?_)
  obtain ⟨base, hb⟩ : ∃ b, w.heap.size + 1 = b := ⟨_, rfl⟩
  rw [hb] at HM1 HS1 ⊢
  have HB := Lib.hid hb
  generalize (w.alloc (.cells c 30)).alloc (.cells B64 5) = w1 at HX1 HG1 HM1 HS1 ⊢
  clear hb HMM HG1 hmk
  go_loopg [3, 8] 32 (fun gk s3 s8 wx => ∃ i : Nat, i + gk = 32 ∧ s8 = .int .i64 (i : Int) ∧ Mine wx base s3 (hxn (d.take i)) ∧ Ext w wx ∧ base ≤ wx.heap.size)
  case atStart => exact ⟨0, by omega, rfl, HM1.out, HX1.out, HS1.out⟩
  case round =>
    obtain ⟨i, hig, rfl, hm, hx, hbs⟩ := hrel
    have HM := Lib.hid hm
    have HX := Lib.hid hx
    have HBS := Lib.hid hbs
    obtain ⟨B3, c3, rfl, hc3, hr3⟩ := hm.slice (hxn_sm _)
    cases gk with
    | zero =>
      obtain rfl : i = 32 := by omega
      have hl := HLN.out 32 (Nat.le_refl _)
      rw [HAL.out] at hl hr3
      rw [HAL.out, hl]
      obtain ⟨b, o, eB, _⟩ := hr3.2 0 (by rw [hl]; decide)
      subst eB
      have hcv : (convert 35 9 (.slice (some ⟨b, o, none⟩) (2 * 32) c3)).run Tryd.prog wr = .ok (.string (hxb d)) wr := by
        rw [run_convert_bytes_string wr 35 9 5 _ _ _ Tryd.underlying35 (by kernel_rfl) Tryd.underlying9]
        exact hex_text wr b o d _ c3 hl hr3
      clear hr3 hl hc3 HM hm hig
      go_wp2
      go_ret
      exact ⟨rfl, HX.out⟩
    | succ gk =>
      have hi : i < 32 := by omega
      have hiI : (i : Int) < 32 := by omega
      have hix := HCX.out i hi
      have HMI := Lib.hid (HMO.out i hi)
      have hl := HLN.out i (by omega)
      rw [hl] at HM hc3 ⊢
      have HLI := Lib.hid hl
      have hxb := HSM.out i
      obtain ⟨x, hx'⟩ : ∃ x, co d i = x := ⟨_, rfl⟩
      rw [hx'] at hix HMI hxb
      obtain ⟨q, hq⟩ : ∃ q, x / 16 = q := ⟨_, rfl⟩
      obtain ⟨r, hr⟩ : ∃ r, x % 16 = r := ⟨_, rfl⟩
      have e1 : (x : Int) / 16 = (q : Int) := by omega
      have e2 : bits .and .u8 (x : Int) 15 = (r : Int) := by rw [and15 x hxb, hr]
      have hdq := HDX.out q (by omega)
      have hdr := HDX.out r (by omega)
      rw [hq, hr] at HMI
      have hyq := (hxd q).toNat_lt
      have hyr := (hxd r).toNat_lt
      obtain ⟨yq, hyq'⟩ : ∃ y, (hxd q).toNat = y := ⟨_, rfl⟩
      obtain ⟨yr, hyr'⟩ : ∃ y, (hxd r).toNat = y := ⟨_, rfl⟩
      rw [hyq'] at hdq HMI hyq
      rw [hyr'] at hdr HMI hyr
      have HIG := Lib.hid hig
      have HSQ := Lib.hid (show Sm [yq, yr] from Sm.cons (by omega) (Sm.cons (by omega) Sm.nil))
      obtain ⟨L, hL⟩ : ∃ L, 2 * i = L := ⟨_, rfl⟩
      rw [hL] at HM hc3 HLI ⊢
      have hLb : L ≤ 64 := by omega
      clear hm hx hbs hr3 hl hx' hq hr hyq' hyr' hL hig
      go_wp2_with fail
      refine wp_region_plan (AfterT wr) [0, 1, 2, 3, 4, 5, 6, 7] (.yes 0 (.yes 1 (.yes 2 (.yes 3 (.yes 4 (.yes 5 (.yes 6 (.one 7 (.one 8 (.one 9 .done)))))))))) (by kernel_rfl) (fun c a a' w e h => ⟨e ▸ h.1, h.2⟩) (by kernel_rfl) ((Ext.refl wr).drew) ?_
      refine plan_yes rfl (fun K hK => ?_); go_simp; refine ⟨_, fun _ _ => rfl, hK _ ?_⟩; clear hK K
      refine plan_yes rfl (fun K hK => ?_); go_simp; refine ⟨_, fun _ _ => rfl, hK _ ?_⟩; clear hK K
      refine plan_yes rfl (fun K hK => ?_); go_simp; refine ⟨_, fun _ _ => rfl, hK _ ?_⟩; clear hK K
      refine plan_yes rfl (fun K hK => ?_); go_simp; refine ⟨_, fun _ _ => rfl, hK _ ?_⟩; clear hK K
      refine plan_yes rfl (fun K hK => ?_); go_simp; refine ⟨_, fun _ _ => rfl, hK _ ?_⟩; clear hK K
      refine plan_yes rfl (fun K hK => ?_); go_simp; refine ⟨_, fun _ _ => rfl, hK _ ?_⟩; clear hK K
      refine plan_yes rfl (fun K hK => ?_); go_simp; refine ⟨_, fun _ _ => rfl, hK _ ?_⟩; clear hK K
      refine plan_one rfl (fun K hK => ?_)
      go_wp2
      have HXA := Lib.hid (show AfterT wr (World.drew (World.alloc wr (.cells #[.int .u8 (yq : Int), .int .u8 (yr : Int)] 5))) from (Ext.alloc (Ext.refl wr) _).drew)
      refine ⟨fun _ => HXA.out, ?_⟩
      refine plan_one rfl (fun K hK => ?_)
      go_wp2_with (at_builtin; refine wpList_append_rd rfl (.tmp 11) (.tmp 18) rfl base (.slice B3 L c3) (hxn (d.take i)) [yq, yr] rfl (mine_ext HM.out HXA.out) (some ⟨wr.heap.size, 0, none⟩) 2 2 rfl rfl (Rd.ext (rd_lit wr [yq, yr] HSQ.out) ((Ext.refl _).drew)) (by rw [HLI.out]; simp; omega) (by have := HBS.out; simp; omega) ?_; intro v9 w9 hown9 hg9 hat9; rw [← HMI.out] at hown9; have HX9 := Lib.hid ((HX.out.trans HXA.out).more hg9 (fun q hq => by have := (HM.out.block q hq).1; have := HB.out; omega)); have HM9 := Lib.hid hown9; have HS9 := Lib.hid (show base ≤ w9.heap.size from by have := hg9.size; have := HXA.out.size; have := HBS.out; omega); clear hown9 hg9 hat9)
      refine ⟨fun h => absurd h (by decide), ?_⟩
      refine plan_one rfl (fun K hK => ?_)
      go_wp2
      refine ⟨fun h => absurd h (by decide), ?_⟩
      unfold wpPlan
      go_wp2
      go_roundg gk
      case measure => omega
      case rel => exact ⟨i + 1, by have := HIG.out; omega, by go_num, HM9.out, HX9.out, HS9.out⟩
end Go.Proofs.YthbfodmpoheahaaDoor

/-
  What Of and Hex of layer 10 do, as one statement, for the layers above it. Conditions: no more than 2^16 bytes; the constants lie where they were laid.
-/
namespace Go.Proofs.YthbfodmpoheahaaDoor
open Go.RowKit
open Pol (co Sm)

structure ShaOH : Prop where
  of : ∀ (b : List Nat) (A : Option Addr) (c : Nat) (w : World), GL w → Rd w A b → b.length ≤ c → b.length ≤ 65536 → Calls Tryd.prog 22 #[.slice A b.length c] w (DgS (sha b) w)
  hex : ∀ (c : Array Value) (d : List Nat) (w : World), Dgc c d → d.length = 32 → Sm d → Calls Tryd.prog 23 #[.agg c] w (HexS d w)
theorem shaOH : ShaOH where
  of b A c w hg hr hc hl := sh_of b A c w hg hr hc hl
  hex c d w hc hd hs := sh_hex c d w hc hd hs
end Go.Proofs.YthbfodmpoheahaaDoor

/-
  What slices.Concat of slices of bytes does. Conditions: no more than 16 of them, together no more than 2^17 bytes.
-/
namespace Go.Proofs.YthbfodmpoheahaaDoor
open Go.RowKit
open Pol (co Sm)

set_option maxHeartbeats 800000 in
set_option maxRecDepth 100000 in
theorem cat_grow (n : Nat) (w : World) (hn : n ≤ 1048576) :
    Calls Tryd.prog 56 #[.slice none 0 0, .int .i64 (n : Int)] w (CloneS [] w) := by
  unfold CloneS
  have d1 : decide ((n : Int) < 0) = false := decide_eq_false (by omega)
  have n1 : ¬ (n : Int) < 0 := by omega
  have e1 : wrap64 (n : Int) = (n : Int) := by unfold wrap64; omega
  by_cases h0 : n = 0
  · subst h0
    clear d1 n1 e1
    go_enter Tryd.func56, Tryd.ntmps56
    go_wp2
    go_ret
    exact ⟨Ext.refl _, _, rfl, Mine.nil _ _⟩
  · have d2 : decide ((n : Int) > 0) = true := decide_eq_true (by omega)
    have n2 : (n : Int) > 0 := by omega
    obtain ⟨i0, hi, hz0, hz1, hz2⟩ := info_parts u8_info
    have hrun := fun (W : World) (ty : TypeId) => Lib.run_append_nil_zeros (P := Tryd.prog) W 35 3 ty 5 i0 (.int .u8 0) .i64 .i64 Tryd.underlying35 Tryd.underlying3 hi hz0 n (by omega) (by omega) (by omega) (by rw [hz2]; omega)
    have HG := Lib.hid (fun (W : World) => show n ≤ grownCap W n 0 5 ∧ grownCap W n 0 5 ≤ maxLen from ⟨grownCap_ge W _ _ _, grownCap_le_maxLen W _ _ _ (by unfold maxLen; omega)⟩)
    have HM := Lib.hid (fun (W : World) => show Mine (W.drew.alloc (.cells (Builtin.zeroCells (Value.int .u8 0).cells n ++ Builtin.zeroCells (Value.int .u8 0).cells (grownCap W n 0 5 - n)) 5)) W.heap.size (.slice (some ⟨W.heap.size, 0, none⟩) 0 (grownCap W n 0 5)) [] from
      World.ownsRow_made W.drew _ _ (Nat.le_refl _) (HG.out W).2 (by
        have h := (HG.out W).1
        rw [Array.size_append, size_zeroCells, size_zeroCells, show (Value.int .u8 0).cells.size = 1 from rfl, Nat.mul_one, Nat.mul_one, Nat.mul_one]
        omega))
    have HX := Lib.hid (fun (W : World) (o : Obj) => show Ext W (W.drew.alloc o) from ((Ext.refl W).drew).alloc o)
    obtain ⟨G, hG⟩ : ∃ G, grownCap w n 0 5 = G := ⟨_, rfl⟩
    have hM := HM.out w
    have hg := HG.out w
    have hr := hrun w 35
    have hX := HX.out w
    rw [hG] at hM hg hr
    generalize (Builtin.zeroCells (Value.int .u8 0).cells n ++ Builtin.zeroCells (Value.int .u8 0).cells (G - n)) = Z at hM hr
    have HM2 := Lib.hid hM
    have HX2 := Lib.hid hX
    have HR2 := Lib.hid hr
    have hg1 := hg.1
    have hg2 : ¬ (G : Int) < 0 := by omega
    have hg3 : (G : Int) ≤ 9223372036854775807 := by have := hg.2; unfold maxLen at this; omega
    clear hM hX hr hg hG hrun HM HX HG hi hz0 hz1 hz2
    go_enter Tryd.func56, Tryd.ntmps56
    go_wp2_with (at_builtin; refine Lib.wpList_append_run w rfl (.tmp 20) (.tmp 21) 35 3 rfl (.slice none 0 0) (.int .i64 n) rfl rfl _ _ HR2.out ?_)
    go_ret
    exact ⟨HX2.out _, _, rfl, HM2.out⟩
theorem flat_more (rows : List (List Nat)) (i : Nat) (h : i < rows.length) : (rows.take (i + 1)).flatten = (rows.take i).flatten ++ ro rows i := by
  rw [List.take_succ_eq_append_getElem h, List.flatten_append, List.flatten_singleton]
  unfold ro
  rw [List.getElem?_eq_getElem h]
  rfl
theorem flat_take_le : ∀ (rows : List (List Nat)) (i : Nat), (rows.take i).flatten.length ≤ rows.flatten.length
  | [], i => by simp
  | r :: rows, 0 => by simp
  | r :: rows, i + 1 => by
    rw [List.take_succ_cons, List.flatten_cons, List.flatten_cons, List.length_append, List.length_append]
    have := flat_take_le rows i
    omega
theorem rows_flat_sm : ∀ rows : List (List Nat), (∀ r ∈ rows, Sm r) → Sm rows.flatten
  | [], _ => Sm.nil
  | r :: rows, h => by
    rw [List.flatten_cons]
    exact sm_app (h r (by simp)) (rows_flat_sm rows (fun x hx => h x (by simp [hx])))
set_option maxHeartbeats 1600000 in
set_option maxRecDepth 100000 in
theorem mk_cat (rows : List (List Nat)) (A : Option Addr) (ca : Nat) (w : World) (hr : RRd w A rows) (hl : rows.length ≤ 16) (hls : rows.flatten.length ≤ 131072) :
    Calls Tryd.prog 42 #[.slice A rows.length ca] w (CloneS rows.flatten w) := by
  have HR := Lib.hid hr
  have HGR := Lib.hid (fun n W (h : n ≤ 1048576) => cat_grow n W h)
  have HTK := Lib.hid (fun i (hi : i < rows.length) => flat_more rows i hi)
  have HLE := Lib.hid (fun i => Nat.le_trans (flat_take_le rows i) hls)
  have HSM := Lib.hid (fun i => rows_flat_sm (rows.take i) (fun r h => hr.sm r (List.mem_of_mem_take h)))
  unfold CloneS at HGR ⊢
  obtain ⟨n, hn⟩ : ∃ n, rows.length = n := ⟨_, rfl⟩
  have HN := Lib.hid hn
  have HALL := Lib.hid (show rows.take n = rows from by rw [← hn, List.take_length])
  have HZ := Lib.hid (show (rows.take 0).flatten = [] from by simp)
  rw [hn] at hl HTK ⊢
  clear hr hn hls
  go_enter Tryd.func42, Tryd.ntmps42
  go_wp2
  go_loopg [3, 11] n (fun g s3 s11 wx => ∃ i q : Nat, i + g = n ∧ s11 = .int .i64 (i : Int) ∧ s3 = .int .i64 (((rows.take i).flatten.length : Nat) : Int) ∧ wx = w.drewN q)
  case atStart => exact ⟨0, 0, by omega, rfl, by rw [HZ.out]; rfl, rfl⟩
  case round =>
    obtain ⟨i, q, hig, rfl, rfl, rfl⟩ := hrel
    cases gk with
    | zero =>
      obtain rfl : i = n := by omega
      have hle := HLE.out i
      rw [HALL.out] at hle ⊢
      obtain ⟨T, hT⟩ : ∃ T, rows.flatten.length = T := ⟨_, rfl⟩
      have HTL := Lib.hid hT
      rw [hT] at hle ⊢
      have HX0 := Lib.hid ((Ext.refl w).drewN q)
      have HR0 := Lib.hid (HR.out.ext HX0.out)
      have HG := Lib.hid (HGR.out T (w.drewN q) (by omega))
      generalize hwq : w.drewN q = wq at HX0 HR0 HG ⊢
      have HS0 := Lib.hid HX0.out.size
      clear hT hig hwq
      go_wp2_with fail
      refine HG.out.mono ?_
      rintro e w1 ⟨hx1, v1, rfl, hm1⟩
      have HX1 := Lib.hid (HX0.out.trans hx1)
      have HM1 := Lib.hid (hm1.down (base' := w.heap.size) HX0.out.size)
      clear hx1 hm1
      go_wp2
      go_loopg [6, 27] i (fun g s6 s27 wx => ∃ j : Nat, j + g = i ∧ s27 = .int .i64 (j : Int) ∧ Mine wx w.heap.size s6 (rows.take j).flatten ∧ Ext w wx)
      case atStart => exact ⟨0, by omega, rfl, by rw [HZ.out]; exact HM1.out, HX1.out⟩
      case round =>
        obtain ⟨j, hjg, rfl, hm, hx⟩ := hrel
        have HM := Lib.hid hm
        have HX := Lib.hid hx
        have HS := Lib.hid (HSM.out j)
        obtain ⟨B6, c6, rfl, hc6, _⟩ := hm.slice HS.out
        cases gk with
        | zero =>
          obtain rfl : j = i := by omega
          rw [HALL.out] at HM ⊢
          clear hm hx hjg
          go_wp2
          go_ret
          exact ⟨HX.out, _, rfl, HM.out⟩
        | succ g =>
          have hj : j < i := by omega
          have hjI : (j : Int) < (i : Int) := by omega
          obtain ⟨b1, o1, R1, c1, rfl, hc1, hl1, hr1⟩ := (HR.out.ext hx) j (by rw [HN.out]; exact hj)
          have HRJ := Lib.hid hr1
          have HTKJ := Lib.hid (HTK.out j hj)
          have HB := Lib.hid (show (rows.take j).flatten.length + (ro rows j).length ≤ 131072 from by
            have := HLE.out (j + 1)
            rw [HTKJ.out, List.length_append] at this
            exact this)
          obtain ⟨t, ht⟩ : ∃ t, ro rows j = t := ⟨_, rfl⟩
          rw [ht] at hc1 hl1 HTKJ HRJ HB
          obtain ⟨nt, hnt⟩ : ∃ nt, t.length = nt := ⟨_, rfl⟩
          have HNT := Lib.hid hnt
          rw [hnt] at hc1 hl1
          obtain ⟨J, hJ⟩ : ∃ J, (rows.take j).flatten.length = J := ⟨_, rfl⟩
          have HJ := Lib.hid hJ
          rw [hJ] at hc6 HM ⊢
          have HS2 := Lib.hid hx.size
          have HIG := Lib.hid hjg
          clear hm hx hr1 ht hnt hJ hjg
          go_wp2_with (at_builtin; refine wpList_append_rd rfl (.tmp 31) (.tmp 32) rfl w.heap.size (.slice B6 J c6) (rows.take j).flatten t rfl HM.out R1 nt c1 rfl HNT.out HRJ.out (by have := HB.out; omega) HS2.out ?_; intro v7 w7 hown7 hg7 hat7; rw [← HTKJ.out] at hown7; have HX7 := Lib.hid (HX.out.more hg7 (fun q hq => (HM.out.block q hq).1)); have HM7 := Lib.hid hown7; clear hown7 hg7 hat7)
          go_roundg g
          case measure => omega
          case rel => exact ⟨j + 1, by have := HIG.out; omega, by go_num, HM7.out, HX7.out⟩
    | succ g =>
      have hi : i < n := by omega
      have hiI : (i : Int) < (n : Int) := by omega
      obtain ⟨b1, o1, R1, c1, rfl, hc1, hl1, hr1⟩ := (HR.out.ext ((Ext.refl w).drewN q)) i (by rw [HN.out]; exact hi)
      have hle := HLE.out (i + 1)
      have HTKI := Lib.hid (HTK.out i hi)
      have HSU := Lib.hid (show (rows.take (i + 1)).flatten.length = (rows.take i).flatten.length + (ro rows i).length from by rw [HTKI.out, List.length_append])
      rw [HSU.out] at hle
      obtain ⟨t, ht⟩ : ∃ t, (ro rows i).length = t := ⟨_, rfl⟩
      rw [ht] at hc1 hl1 hle HSU
      obtain ⟨s, hs⟩ : ∃ s, (rows.take i).flatten.length = s := ⟨_, rfl⟩
      rw [hs] at hle HSU ⊢
      have e1 : wrap64 ((s : Int) + (t : Int)) = ((s + t : Nat) : Int) := by unfold wrap64; omega
      have d1 : decide (((s + t : Nat) : Int) < 0) = false := decide_eq_false (by omega)
      have n1 : ¬ ((s + t : Nat) : Int) < 0 := by omega
      have d2 : decide ((s : Int) + (t : Int) < 0) = false := decide_eq_false (by omega)
      have n2 : ¬ (s : Int) + (t : Int) < 0 := by omega
      have e2 : wrap64 ((s : Int) + (t : Int)) = (s : Int) + (t : Int) := by unfold wrap64; omega
      have HIG := Lib.hid hig
      clear e1 d1 n1 hr1 ht hs hig
      go_wp2
      go_roundg g
      case measure => omega
      case rel => exact ⟨i + 1, q, by have := HIG.out; omega, by go_num, by rw [HSU.out]; go_num, rfl⟩
end Go.Proofs.YthbfodmpoheahaaDoor

/-
  What leaf and join of layer 11 do. Conditions: no more than 2^16 bytes less one; the constants of layer 10 lie where they were laid.
-/
namespace Go.Proofs.YthbfodmpoheahaaDoor
open Go.RowKit
open Pol (co Sm)

theorem rowsV_2 {W : World} {v1 v2 : Value} {a b : List Nat} (h1 : Sl W v1 a) (h2 : Sl W v2 b) : RowsV W [v1, v2] [a, b] := (rowsV_one h1).append (rowsV_one h2)
theorem rowsV_3 {W : World} {v1 v2 v3 : Value} {a b c : List Nat} (h1 : Sl W v1 a) (h2 : Sl W v2 b) (h3 : Sl W v3 c) : RowsV W [v1, v2, v3] [a, b, c] := ((rowsV_one h1).append (rowsV_one h2)).append (rowsV_one h3)
theorem sl_lit1 (W : World) (g x : Nat) (hx : x < 256) (hg : W.heap.size = g) : Sl (W.alloc (.cells #[.int .u8 (x : Int)] 5)) (.slice (some ⟨g, 0, none⟩) 1 1) [x] := by
  subst hg
  exact ⟨some ⟨W.heap.size, 0, none⟩, 1, rfl, Nat.le_refl _, rd_one W x hx⟩
set_option maxHeartbeats 1600000 in
set_option maxRecDepth 100000 in
theorem mk_leaf (S : ShaOH) (t : List Nat) (A : Option Addr) (c : Nat) (w : World) (hgl : GL w) (hr : Rd w A t) (hc : t.length ≤ c) (hl : t.length ≤ 65535) :
    Calls Tryd.prog 25 #[.slice A t.length c] w (Tells (dgv (lf sha t)) w) := by
  obtain ⟨g0, hg0⟩ : ∃ g, w.heap.size = g := ⟨_, rfl⟩
  have HW0 := Lib.hid hg0
  have HT := Lib.hid (show ([[0], t] : List (List Nat)).flatten.length = t.length + 1 ∧ ([[0], t] : List (List Nat)).flatten = 0 :: t ∧ Sm (0 :: t) ∧ (0 :: t).length = t.length + 1 from ⟨by simp, by simp, Sm.cons (by omega) hr.1, by simp⟩)
  have HOF := Lib.hid (fun A c W (hg : GL W) (h : Rd W A (0 :: t)) (hc : (0 :: t).length ≤ c) => S.of (0 :: t) A c W hg h hc (by simp; omega))
  have HCT := Lib.hid (fun A c W (h : RRd W A [[0], t]) => show Calls Tryd.prog 42 #[.slice A 2 c] W (CloneS ([[0], t] : List (List Nat)).flatten W) from mk_cat [[0], t] A c W h (by simp) (by rw [HT.out.1]; omega))
  have HSL := Lib.hid (show Sl w (.slice A t.length c) t from ⟨A, c, rfl, hc, hr⟩)
  rw [HT.out.2.1] at HCT
  rw [HT.out.2.2.2] at HOF
  have HGL := Lib.hid hgl
  obtain ⟨n, hn⟩ : ∃ n, t.length = n := ⟨_, rfl⟩
  have HN := Lib.hid hn
  rw [hn] at hl hc HT HOF HSL ⊢
  have hz := zero_digest.1
  have HZ32 := Lib.hid (fun (_ : Unit) => show (bt 32 fun _ => 0).size = 32 from bt_size _ _)
  obtain ⟨Z, hZ⟩ : ∃ Z, (bt 32 fun _ => 0) = Z := ⟨_, rfl⟩
  rw [hZ] at hz HZ32
  unfold DgS at HOF
  unfold CloneS at HCT
  have HL := Lib.hid (show sha (0 :: t) = lf sha t from rfl)
  rw [HL.out] at HOF
  clear HL
  obtain ⟨D, hD⟩ : ∃ D, lf sha t = D := ⟨_, rfl⟩
  rw [hD] at HOF ⊢
  have hx1 := (Ext.refl w).alloc (.cells Z 30)
  have hr0 : (w.alloc (.cells Z 30)).heap[g0]? = some (.cells Z 30 (0, 0)) := by rw [← hg0]; exact heap_alloc_new w _
  have hs1 : (w.alloc (.cells Z 30)).heap.size = g0 + 1 := by rw [← hg0]; simp
  obtain ⟨w1, hw1⟩ : ∃ q, w.alloc (.cells Z 30) = q := ⟨_, rfl⟩
  rw [hw1] at hx1 hr0 hs1
  have HW1 := Lib.hid hw1
  have HX1 := Lib.hid hx1
  have HR0 := Lib.hid hr0
  have hx2 : Ext w1 (w1.alloc (.cells #[.int .u8 0] 5)) := (Ext.refl w1).alloc _
  have HRV := Lib.hid (show RowsV (w1.alloc (.cells #[.int .u8 0] 5)) [.slice (some ⟨g0 + 1, 0, none⟩) 1 1, .slice A n c] [[0], t] from rowsV_2 (sl_lit1 w1 (g0 + 1) 0 (by omega) hs1) ((HSL.out.ext HX1.out).ext hx2))
  have HS2 := Lib.hid (show (w1.alloc (.cells #[.int .u8 0] 5)).heap.size = g0 + 1 + 1 from by rw [← hs1]; simp)
  have HRR := Lib.hid (show RRd ((w1.alloc (.cells #[.int .u8 0] 5)).alloc (.cells #[.slice (some ⟨g0 + 1, 0, none⟩) 1 1, .slice A n c] 35)) (some ⟨g0 + 1 + 1, 0, none⟩) [[0], t] from by
    have h := rrd_lit _ _ _ HRV.out
    rw [HS2.out] at h
    exact h)
  have HX3 := Lib.hid (show Ext w1 ((w1.alloc (.cells #[.int .u8 0] 5)).alloc (.cells #[.slice (some ⟨g0 + 1, 0, none⟩) 1 1, .slice A n c] 35)) from hx2.alloc _)
  have HZ1 := Lib.hid hs1
  clear hx1 hr0 hw1 hs1 hx2 hr hc hl hn hZ hD hgl
  go_enter Tryd.func25, Tryd.ntmps25
  go_wp2_with fail
  rw [HW1.out]
  refine (HCT.out _ 2 _ HRR.out).mono ?_
  rintro e w5 ⟨hx5, v5, rfl, hm5⟩
  obtain ⟨B5, c5, rfl, hc5, hr5⟩ := hm5.slice HT.out.2.2.1
  rw [HT.out.2.2.2] at hc5 ⊢
  have HX5 := Lib.hid (HX3.out.trans hx5)
  have HR5 := Lib.hid hr5
  have HC5 := Lib.hid hc5
  clear hx5 hm5 hr5 hc5
  go_wp2_with fail
  refine (HOF.out B5 c5 w5 (HGL.out.ext (HX1.out.trans HX5.out)) HR5.out HC5.out).mono ?_
  rintro e w9 ⟨V, rfl, hV, hx9⟩
  have HV := Lib.hid hV
  have HX9 := Lib.hid (HX5.out.trans hx9)
  have HR9 := Lib.hid (WBlk.ext' HR0.out HX9.out)
  have HI9 := Lib.hid hV.info
  have HO9 := Lib.hid hV.one
  have HZ9 := Lib.hid (show Z.size = V.size from by rw [hV.1]; exact HZ32.out ())
  have HG3 := Lib.hid (setRow_heap _ g0 _ V _ _ HR9.out)
  have HXX := Lib.hid ((HX1.out.trans HX9.out).setRow (g := g0) (by rw [HW0.out]; exact Nat.le_refl _) V)
  clear hV hx9
  go_wp2_with (with_reducible refine wpList_store_all rfl 30 (.tmp 2) (.tmp 7) rfl g0 Z V rfl rfl HR9.out HI9.out HZ9.out HO9.out ?_)
  exact ⟨rfl, .agg V, results_cell_row Tryd.results25 _ _ g0 30 V (0, 0) _ rfl HG3.out Tryd.underlying30 rfl HI9.out, by rw [HV.out.val], HXX.out⟩
end Go.Proofs.YthbfodmpoheahaaDoor

/-
  What stage 11's laws begin with, walked, under what the functions of layers 10 and 11 are to do. Conditions: none.
-/
namespace Go.Proofs.YthbfodmpoheahaaDoor
open Go.RowKit
open Pol (co Sm)

set_option maxHeartbeats 3200000 in
set_option maxRecDepth 100000 in
theorem awake11 (S : ShaOH) (C : MerkleSaid) (w : World) (hgl : GL w) : Calls Tryd.prog 9 #[] w (Holds w) := by
  obtain ⟨g0, hg0⟩ : ∃ g, w.heap.size = g := ⟨_, rfl⟩
  have HGL := Lib.hid hgl
  have s1 : Sl (w.alloc (.cells #[.int .u8 1] 5)) (.slice (some ⟨g0, 0, none⟩) 1 1) [1] := sl_lit1 w g0 1 (by omega) hg0
  have z1 : (w.alloc (.cells #[.int .u8 1] 5)).heap.size = g0 + 1 := by rw [← hg0]; simp
  have x1 : Ext w (w.alloc (.cells #[.int .u8 1] 5)) := (Ext.refl w).alloc _
  obtain ⟨w1, hw1⟩ : ∃ q, w.alloc (.cells #[.int .u8 1] 5) = q := ⟨_, rfl⟩
  rw [hw1] at s1 z1 x1
  have s2 := sl_lit1 w1 (g0 + 1) 2 (by omega) z1
  have z2 : (w1.alloc (.cells #[.int .u8 2] 5)).heap.size = g0 + 1 + 1 := by rw [← z1]; simp
  have x2 : Ext w1 (w1.alloc (.cells #[.int .u8 2] 5)) := (Ext.refl w1).alloc _
  have e2 : ((2 : Nat) : Int) = 2 := rfl
  rw [e2] at s2
  obtain ⟨w2, hw2⟩ : ∃ q, w1.alloc (.cells #[.int .u8 2] 5) = q := ⟨_, rfl⟩
  rw [hw2] at s2 z2 x2
  have s3 := sl_lit1 w2 (g0 + 1 + 1) 3 (by omega) z2
  have z3 : (w2.alloc (.cells #[.int .u8 3] 5)).heap.size = g0 + 1 + 1 + 1 := by rw [← z2]; simp
  have x3 : Ext w2 (w2.alloc (.cells #[.int .u8 3] 5)) := (Ext.refl w2).alloc _
  have e3 : ((3 : Nat) : Int) = 3 := rfl
  rw [e3] at s3
  obtain ⟨w3, hw3⟩ : ∃ q, w2.alloc (.cells #[.int .u8 3] 5) = q := ⟨_, rfl⟩
  rw [hw3] at s3 z3 x3
  have r4 := rrd_lit w3 _ awl (rowsV_3 ((s1.ext x2).ext x3) (s2.ext x3) s3)
  rw [z3] at r4
  have x4 : Ext w3 (w3.alloc (.cells #[.slice (some ⟨g0, 0, none⟩) 1 1, .slice (some ⟨g0 + 1, 0, none⟩) 1 1, .slice (some ⟨g0 + 1 + 1, 0, none⟩) 1 1] 35)) := (Ext.refl w3).alloc _
  obtain ⟨w4, hw4⟩ : ∃ q, w3.alloc (.cells #[.slice (some ⟨g0, 0, none⟩) 1 1, .slice (some ⟨g0 + 1, 0, none⟩) 1 1, .slice (some ⟨g0 + 1 + 1, 0, none⟩) 1 1] 35) = q := ⟨_, rfl⟩
  have HW4 := Lib.hid (show (((w.alloc (.cells #[.int .u8 1] 5)).alloc (.cells #[.int .u8 2] 5)).alloc (.cells #[.int .u8 3] 5)).alloc (.cells #[.slice (some ⟨g0, 0, none⟩) 1 1, .slice (some ⟨g0 + 1, 0, none⟩) 1 1, .slice (some ⟨g0 + 1 + 1, 0, none⟩) 1 1] 35) = w4 from by rw [hw1, hw2, hw3, hw4])
  have HR4 := Lib.hid (show RRd w4 (some ⟨g0 + 1 + 1 + 1, 0, none⟩) awl from by rw [← hw4]; exact r4)
  have HX4 := Lib.hid (show Ext w w4 from by rw [← hw4]; exact ((x1.trans x2).trans x3).trans x4)
  clear s1 z1 x1 s2 z2 x2 s3 z3 x3 r4 x4 hw1 hw2 hw3 hw4 e2 e3
  have hla : awl.length = 3 := rfl
  have hlr : ∀ i, i < awl.length → (ro awl i).length ≤ 32768 := fun i hi => by
    match i, hi with
    | 0, _ => decide
    | 1, _ => decide
    | 2, _ => decide
  have HP := Lib.hid (show Calls Tryd.prog 11 #[.slice (some ⟨g0 + 1 + 1 + 1, 0, none⟩) 3 3, .int .i64 2] w4 (ProofS awl 2 w4) from C.prf awl 2 _ 3 w4 (by decide) (HGL.out.ext HX4.out) HR4.out (by decide) (by decide) hlr)
  have HRT := Lib.hid (fun W (h : Ext w4 W) => show Calls Tryd.prog 12 #[.slice (some ⟨g0 + 1 + 1 + 1, 0, none⟩) 3 3] W (Tells (dgv (mroot sha awl)) W) from C.root awl _ 3 W (HGL.out.ext (HX4.out.trans h)) (HR4.out.ext h) (by decide) (by decide) hlr)
  have HRN := Lib.hid (fun W (h : Ext w W) => show Calls Tryd.prog 12 #[.slice none 0 0] W (Tells (dgv (sha [])) W) from by
    have h1 := C.root [] none 0 W (HGL.out.ext h) (RRd.nil _ _) (by simp) (by simp) (by simp)
    rw [mroot_nil] at h1
    exact h1)
  have HON := Lib.hid (fun W (h : Ext w W) => show Calls Tryd.prog 22 #[.slice none 0 0] W (Tells (dgv (sha [])) W) from (S.of [] none 0 W (HGL.out.ext h) (Rd.nil _ _) (Nat.le_refl _) (by simp)).mono fun _ _ h => h.tells)
  have HHX := Lib.hid (fun W => S.hex (bt 32 (co (sha []))) (sha []) W (bt_dgc _) (sha_len _) (sha_sm _))
  have HT := Lib.hid (show hxs (sha []) = hxs [227, 176, 196, 66, 152, 252, 28, 20, 154, 251, 244, 200, 153, 111, 185, 36, 39, 174, 65, 228, 100, 155, 147, 76, 164, 149, 153, 27, 120, 82, 184, 85] from by rw [sha_nil])
  have HSH := Lib.hid (fun (W : World) (h : Ext w W) (t : List Nat) (x : Nat) (ht : t = [x]) (hx : x < 256) (B : Option Addr) (k : Nat) (hk : 1 ≤ k) (hd : DRd W B (mprf sha awl 2)) =>
    show Calls Tryd.prog 16 #[dgv (mroot sha awl), .slice (some ⟨W.heap.size, 0, none⟩) 1 1, .int .i64 2, .int .i64 3, .slice B 1 k] (W.alloc (.cells #[.int .u8 (x : Int)] 5)) (Tells (.bool (shw (mroot sha awl) t 2 3 (mprf sha awl 2))) (W.alloc (.cells #[.int .u8 (x : Int)] 5))) from by
    subst ht
    have hl1 : (mprf sha awl 2).length = 1 := by rw [aw_prf]; rfl
    have h1 := C.shows (mroot sha awl) [x] 2 3 (mprf sha awl 2) (some ⟨W.heap.size, 0, none⟩) B 1 k (W.alloc (.cells #[.int .u8 (x : Int)] 5)) ((HGL.out.ext h).ext ((Ext.refl _).alloc _)) (mroot_32 _) (mroot_sm _) (rd_one W x hx) (by simp) (by simp) (hd.ext ((Ext.refl _).alloc _)) (by rw [hl1]; exact hk) (by rw [hl1]; decide)
    rw [hl1] at h1
    exact h1)
  have HS3 := Lib.hid (fun (W : World) (h : Ext w W) (B : Option Addr) (k : Nat) (hk : 1 ≤ k) (hd : DRd W B (mprf sha awl 2)) => show Calls Tryd.prog 16 #[dgv (mroot sha awl), .slice (some ⟨W.heap.size, 0, none⟩) 1 1, .int .i64 2, .int .i64 3, .slice B 1 k] (W.alloc (.cells #[.int .u8 3] 5)) (Tells (.bool true) (W.alloc (.cells #[.int .u8 3] 5))) from by
    have h1 := HSH.out W h [3] 3 rfl (by omega) B k hk hd
    rw [aw_t] at h1
    exact h1)
  have HS2 := Lib.hid (fun (W : World) (h : Ext w W) (B : Option Addr) (k : Nat) (hk : 1 ≤ k) (hd : DRd W B (mprf sha awl 2)) => show Calls Tryd.prog 16 #[dgv (mroot sha awl), .slice (some ⟨W.heap.size, 0, none⟩) 1 1, .int .i64 2, .int .i64 3, .slice B 1 k] (W.alloc (.cells #[.int .u8 2] 5)) (Tells (.bool false) (W.alloc (.cells #[.int .u8 2] 5))) from by
    have h1 := HSH.out W h [2] 2 rfl (by omega) B k hk hd
    rw [aw_f] at h1
    exact h1)
  have hz := zero_digest.1
  have HZ32 := Lib.hid (fun (_ : Unit) => show (bt 32 fun _ => 0).size = 32 from bt_size _ _)
  obtain ⟨Z, hZ⟩ : ∃ Z, (bt 32 fun _ => 0) = Z := ⟨_, rfl⟩
  rw [hZ] at hz HZ32
  have HPL := Lib.hid (show (mprf sha awl 2).length = 1 from by rw [aw_prf]; rfl)
  have HVR := Lib.hid (bt_dgc (mroot sha awl))
  have HQN := Lib.hid (fun W => show (binOp .eql 30 (dgv (sha [])) (dgv (sha []))).run Tryd.prog W = .ok (.bool true) W from by
    have h := run_eq_dgc (bt_dgc (sha [])) (bt_dgc (sha [])) (sha_len _) (sha_len _) (sha_sm _) (sha_sm _) W
    rw [decide_eq_true rfl] at h
    exact h)
  unfold ProofS at HP
  unfold dgv at HRT HRN HON HS3 HS2 HQN
  generalize mprf sha awl 2 = P at HP HS3 HS2 HPL
  obtain ⟨VR, hVR⟩ : ∃ V, bt 32 (co (mroot sha awl)) = V := ⟨_, rfl⟩
  rw [hVR] at HRT HS3 HS2 HVR
  obtain ⟨VN, hVN⟩ : ∃ V, bt 32 (co (sha [])) = V := ⟨_, rfl⟩
  rw [hVN] at HRN HON HHX HQN
  obtain ⟨DN, hDN⟩ : ∃ D, sha [] = D := ⟨_, rfl⟩
  rw [hDN] at HHX HT
  clear HSH hgl hla hlr hZ hVR hVN hDN
  go_enter Tryd.func9, Tryd.ntmps9
  go_wp2_with fail
  rw [HW4.out]
  refine HP.out.mono ?_
  rintro e w5 ⟨v, rfl, hm, hx5⟩
  have HX5 := Lib.hid hx5
  obtain ⟨B, k, rfl, hk, hrd⟩ := hm.slice
  rw [HPL.out] at hk ⊢
  have HK := Lib.hid hk
  have HRD := Lib.hid hrd
  clear hm hx5 hk hrd
  go_wp2_with fail
  refine (HRT.out _ HX5.out).mono ?_
  rintro e w6 ⟨rfl, hx6⟩
  have HX6 := Lib.hid (HX5.out.trans hx6)
  have HRD6 := Lib.hid (HRD.out.ext hx6)
  obtain ⟨gx, hgx⟩ : ∃ g, w6.heap.size = g := ⟨_, rfl⟩
  have HGX := Lib.hid (show (w6.alloc (.cells Z 30)).heap[gx]? = some (.cells Z 30 (0, 0)) from by rw [← hgx]; exact heap_alloc_new _ _)
  have HI := Lib.hid HVR.out.info
  have HO := Lib.hid HVR.out.one
  have HZZ := Lib.hid (show Z.size = VR.size from by rw [HVR.out.1]; exact HZ32.out ())
  have HX7 := Lib.hid (show Ext w6 ((w6.alloc (.cells Z 30)).setRow gx VR) from Ext.setRow ((Ext.refl w6).alloc _) (by rw [← hgx]; exact Nat.le_refl _) VR)
  have HG7 := Lib.hid (setRow_heap _ gx _ VR _ _ HGX.out)
  clear hx6
  go_wp2_with (with_reducible refine wpList_store_all rfl 30 (.tmp 4) (.tmp 15) rfl gx Z VR rfl rfl HGX.out HI.out HZZ.out HO.out ?_)
  generalize (w6.alloc (.cells Z 30)).setRow gx VR = w7 at HX7 HG7 ⊢
  clear hgx
  have HY7 := Lib.hid (HX4.out.trans (HX6.out.trans HX7.out))
  have HRD7 := Lib.hid (HRD6.out.ext HX7.out)
  refine (HRN.out _ HY7.out).mono ?_
  rintro e w8 ⟨rfl, hx8⟩
  have HX8 := Lib.hid hx8
  clear hx8
  go_wp2_with fail
  refine (HON.out _ (HY7.out.trans HX8.out)).mono ?_
  rintro e w9 ⟨rfl, hx9⟩
  have HX9 := Lib.hid (HX8.out.trans hx9)
  have hq := HQN.out
  clear hx9
  go_wp2_with fail
  refine (HON.out _ (HY7.out.trans HX9.out)).mono ?_
  rintro e w10 ⟨rfl, hx10⟩
  have HX10 := Lib.hid (HX9.out.trans hx10)
  clear hx10
  go_wp2_with fail
  refine (HHX.out _).mono ?_
  rintro e w11 ⟨rfl, hx11⟩
  have HX11 := Lib.hid (HX10.out.trans hx11)
  obtain ⟨s, hse⟩ : ∃ s, hxb DN = s := ⟨_, rfl⟩
  have hs : s.toList = hxs [227, 176, 196, 66, 152, 252, 28, 20, 154, 251, 244, 200, 153, 111, 185, 36, 39, 174, 65, 228, 100, 155, 147, 76, 164, 149, 153, 27, 120, 82, 184, 85] := by rw [← hse, hxb_list]; exact HT.out
  rw [hse]
  have HG11 := Lib.hid (WBlk.ext' HG7.out HX11.out)
  have HC3 := Lib.hid (HS3.out w11 (HY7.out.trans HX11.out) B k HK.out (HRD7.out.ext HX11.out))
  clear hx11 hse
  go_wp2_with (first | (refine wpList_load_row_g (by rfl) 30 (.tmp 4) rfl gx rfl 30 VR (0, 0) _ HG11.out Tryd.underlying30 rfl HI.out ?_) | (refine wpIf_load_row (by rfl) 30 (.tmp 4) rfl gx rfl 30 VR (0, 0) _ HG11.out Tryd.underlying30 rfl HI.out ?_))
  refine HC3.out.mono ?_
  rintro e w12 ⟨rfl, hx12⟩
  have HX12 := Lib.hid (show Ext w7 w12 from (HX11.out.alloc _).trans hx12)
  have HG12 := Lib.hid (WBlk.ext' HG7.out HX12.out)
  have HC2 := Lib.hid (HS2.out w12 (HY7.out.trans HX12.out) B k HK.out (HRD7.out.ext HX12.out))
  clear hx12 hs
  go_wp2_with (first | (refine wpList_load_row_g (by rfl) 30 (.tmp 4) rfl gx rfl 30 VR (0, 0) _ HG12.out Tryd.underlying30 rfl HI.out ?_) | (refine wpIf_load_row (by rfl) 30 (.tmp 4) rfl gx rfl 30 VR (0, 0) _ HG12.out Tryd.underlying30 rfl HI.out ?_))
  refine HC2.out.mono ?_
  rintro e w13 ⟨rfl, hx13⟩
  have HX13 := Lib.hid (show Ext w7 w13 from (HX12.out.alloc _).trans hx13)
  clear hx13
  go_wp2
  go_ret
  exact ⟨rfl, HY7.out.trans HX13.out⟩
end Go.Proofs.YthbfodmpoheahaaDoor

/-
  What few and same of layer 11's laws tell. Conditions: no more than 2^20 digests.
-/
namespace Go.Proofs.YthbfodmpoheahaaDoor
open Go.RowKit
open Pol (co Sm)

theorem w64_succ (i : Nat) (h : i ≤ 1048577) : wrap64 ((i : Int) + 1) = ((i + 1 : Nat) : Int) := by unfold wrap64; omega
def fewQ (rows : List (List Nat)) : Prop := rows.length ≤ 12 ∧ ∀ i, i < rows.length → (ro rows i).length ≤ 20
set_option maxHeartbeats 800000 in
theorem few11 (rows : List (List Nat)) (A : Option Addr) (ca : Nat) (w : World) (hr : RRd w A rows) (hl : rows.length ≤ maxLen) :
    Calls Tryd.prog 10 #[.slice A rows.length ca] w (fun e w' => ∃ b, e = .returned (.bool b) ∧ (b = true → fewQ rows) ∧ w = w') := by
  have HR := Lib.hid hr
  have HQ := Lib.hid (show rows.length ≤ 12 → (∀ i, i < rows.length → (ro rows i).length ≤ 20) → fewQ rows from fun a b => ⟨a, b⟩)
  obtain ⟨n, hn⟩ : ∃ n, rows.length = n := ⟨_, rfl⟩
  have HN := Lib.hid hn
  have hm : (maxLen : Int) = 9223372036854775807 := by decide
  have hl' : (n : Int) ≤ 9223372036854775807 := by rw [← hm]; omega
  rw [hn] at HQ ⊢
  clear hr hl hn hm
  go_enter Tryd.func10, Tryd.ntmps10
  go_wp2
  go_loopg [6] n (fun g s6 wx => ∃ i : Nat, i + g = n ∧ s6 = .int .i64 (i : Int) ∧ (∀ j, j < i → (ro rows j).length ≤ 20) ∧ wx = w)
  case atStart => exact ⟨0, by omega, rfl, fun j hj => by omega, rfl⟩
  case round =>
    obtain ⟨i, hig, rfl, hs, rfl⟩ := hrel
    have HS := Lib.hid hs
    clear hs
    cases gk with
    | zero =>
      obtain rfl : i = n := by omega
      by_cases h12 : i ≤ 12
      · have d1 : decide ((i : Int) ≤ 12) = true := decide_eq_true (by omega)
        have HF := Lib.hid (HQ.out h12 HS.out)
        go_wp2
        go_ret
        exact ⟨true, rfl, fun _ => HF.out, rfl⟩
      · have d1 : decide ((i : Int) ≤ 12) = false := decide_eq_false (by omega)
        go_wp2
        go_ret
        exact ⟨false, rfl, fun h => by simp at h, rfl⟩
    | succ g =>
      have hi : i < n := by omega
      have hiI : (i : Int) < (n : Int) := by omega
      obtain ⟨b1, o1, R1, c1, rfl, hc1, hl1, hr1⟩ := HR.out i (by rw [HN.out]; exact hi)
      obtain ⟨t, ht⟩ : ∃ t, (ro rows i).length = t := ⟨_, rfl⟩
      have HT := Lib.hid ht
      rw [ht] at hc1 hl1
      have HIG := Lib.hid hig
      clear hr1 ht hig
      by_cases h20 : t ≤ 20
      · have d2 : decide ((t : Int) > 20) = false := decide_eq_false (by omega)
        have n2 : ¬ 20 < (t : Int) := by omega
        have HS2 := Lib.hid (show ∀ j, j < i + 1 → (ro rows j).length ≤ 20 from fun j hj => by
          by_cases e : j = i
          · rw [e, HT.out]; exact h20
          · exact HS.out j (by omega))
        have e1 : IntKind.i64.wrap ((i : Int) + 1) = ((i + 1 : Nat) : Int) := by rw [IntKind.wrap_i64]; omega
        clear h20
        go_wp2
        go_roundg g
        case measure => omega
        case rel => exact ⟨i + 1, by have := HIG.out; omega, by first | rfl | (congr 1; omega) | go_num, HS2.out, rfl⟩
      · have d2 : decide ((t : Int) > 20) = true := decide_eq_true (by omega)
        have n2 : 20 < (t : Int) := by omega
        clear h20
        go_wp2
        go_ret
        exact ⟨false, rfl, fun h => by simp at h, rfl⟩
theorem ro_ext2 {a b : List (List Nat)} (hl : a.length = b.length) (h : ∀ i, i < a.length → ro a i = ro b i) : a = b := ro_ext hl h
set_option maxHeartbeats 1600000 in
set_option maxRecDepth 100000 in
theorem same11 (a b : List (List Nat)) (A B : Option Addr) (ca cb : Nat) (w : World) (ha : DRd w A a) (hb : DRd w B b) (hla : a.length ≤ 1048576) :
    Calls Tryd.prog 14 #[.slice A a.length ca, .slice B b.length cb] w (Tells (.bool (decide (a = b))) w) := by
  by_cases hlm : a.length = b.length
  · obtain ⟨v, hv⟩ : ∃ v, decide (a = b) = v := ⟨_, rfl⟩
    have HT := Lib.hid (fun (h : ∀ j, j < a.length → ro a j = ro b j) => show v = true from by rw [← hv]; exact decide_eq_true (ro_ext hlm h))
    have HF := Lib.hid (fun j (h : ro a j ≠ ro b j) => show v = false from by rw [← hv]; exact decide_eq_false (fun e => h (by rw [e])))
    rw [hv, ← hlm]
    have HA := Lib.hid ha
    have HB := Lib.hid hb
    obtain ⟨n, hn⟩ : ∃ n, a.length = n := ⟨_, rfl⟩
    have HN := Lib.hid hn
    have HM := Lib.hid (show b.length = n from by rw [← hlm, hn])
    rw [hn] at hla HT ⊢
    clear ha hb hn hv hlm
    go_enter Tryd.func14, Tryd.ntmps14
    go_wp2
    go_loopg [13] n (fun g s wx => ∃ i : Nat, i + g = n ∧ s = .int .i64 (i : Int) ∧ Ext w wx ∧ ∀ j, j < i → ro a j = ro b j)
    case atStart => exact ⟨0, by omega, rfl, Ext.refl w, fun j hj => by omega⟩
    case round =>
      obtain ⟨i, hig, rfl, hx, hsame⟩ := hrel
      have HSAME := Lib.hid hsame
      have HX := Lib.hid hx
      clear hsame hx
      cases gk with
      | zero =>
        obtain rfl : i = n := by omega
        have hv := HT.out HSAME.out
        subst hv
        clear hig HF HT
        go_wp2
        go_ret
        exact ⟨rfl, HX.out⟩
      | succ g =>
        have hi : i < n := by omega
        have hiI : (i : Int) < (n : Int) := by omega
        have HAI := Lib.hid (HA.out.one i (by rw [HN.out]; exact hi))
        have HBI := Lib.hid (HB.out.one i (by rw [HM.out]; exact hi))
        obtain ⟨b1, o1, rfl, hc1⟩ := HA.out.addr (by rw [HN.out]; omega)
        obtain ⟨b2, o2, rfl, hc2⟩ := HB.out.addr (by rw [HM.out]; omega)
        have HC1 := Lib.hid (hc1 i (by rw [HN.out]; exact hi))
        have HC2 := Lib.hid (hc2 i (by rw [HM.out]; exact hi))
        have HSN := Lib.hid (fun (e : ro a i = ro b i) => show ∀ j, j < i + 1 → ro a j = ro b j from fun j hj => by
          by_cases e2 : j = i
          · rw [e2, e]
          · exact HSAME.out j (by omega))
        have HFI := Lib.hid (HF.out i)
        obtain ⟨x, hx⟩ : ∃ x, ro a i = x := ⟨_, rfl⟩
        obtain ⟨y, hy⟩ : ∃ y, ro b i = y := ⟨_, rfl⟩
        rw [hx] at HAI HC1 HSN HFI
        rw [hy] at HBI HC2 HSN HFI
        have L1 := Lib.hid (fun (W : World) (h : Ext w W) => show (Instr.loadAt 30 (.pointer (some ⟨b1, o1 + i * 32, none⟩))).run Tryd.prog W = .ok (dgv x) W from run_load_dig W b1 (o1 + i * 32) x (fun j hj => by rw [(h.below.cell (p := ⟨b1, o1 + i * 32 + j, none⟩) (block_lt_of_cell (HC1.out j hj)))]; exact HC1.out j hj))
        have L2 := Lib.hid (fun (W : World) (h : Ext w W) => show (Instr.loadAt 30 (.pointer (some ⟨b2, o2 + i * 32, none⟩))).run Tryd.prog W = .ok (dgv y) W from run_load_dig W b2 (o2 + i * 32) y (fun j hj => by rw [(h.below.cell (p := ⟨b2, o2 + i * 32 + j, none⟩) (block_lt_of_cell (HC2.out j hj)))]; exact HC2.out j hj))
        have HQ := Lib.hid (fun W => run_ne_dgc (bt_dgc x) (bt_dgc y) HAI.out.1 HBI.out.1 HAI.out.2 HBI.out.2 W)
        unfold dgv at L1 L2
        obtain ⟨VX, hVX⟩ : ∃ V, bt 32 (co x) = V := ⟨_, rfl⟩
        obtain ⟨VY, hVY⟩ : ∃ V, bt 32 (co y) = V := ⟨_, rfl⟩
        rw [hVX] at L1 HQ
        rw [hVY] at L2 HQ
        have HIG := Lib.hid hig
        have hn0 : (0 : Int) ≤ (i : Int) := by omega
        have hib : i ≤ 1048577 := by omega
        have HLA := Lib.hid hla
        clear hc1 hc2 hx hy hVX hVY hig hla hib
        go_wp2
        have hq := HQ.out
        refine wp_region_quiet (C := AfterH w) (by kernel_rfl) (by kernel_rfl) (show AfterH w wr.drew from Ext.drew HX.out) ?_
        refine wpQuiet_step (fun K hK => ?_); go_simp; refine ⟨_, fun _ _ => rfl, hK _ ?_⟩; clear hK K
        refine wpQuiet_step (fun K hK => ?_); go_simp; refine ⟨_, fun _ _ => rfl, hK _ ?_⟩; clear hK K
        refine wpQuiet_step (fun K hK => ?_); go_simp; refine ⟨_, fun _ _ => rfl, hK _ ?_⟩; clear hK K
        refine wpQuiet_load rfl 30 (.tmp 18) rfl (.agg VX) (fun W hW => L1.out W hW) ?_
        refine wpQuiet_step (fun K hK => ?_); go_simp; refine ⟨_, fun _ _ => rfl, hK _ ?_⟩; clear hK K
        refine wpQuiet_step (fun K hK => ?_); go_simp; refine ⟨_, fun _ _ => rfl, hK _ ?_⟩; clear hK K
        refine wpQuiet_step (fun K hK => ?_); go_simp; refine ⟨_, fun _ _ => rfl, hK _ ?_⟩; clear hK K
        refine wpQuiet_load rfl 30 (.tmp 22) rfl (.agg VY) (fun W hW => L2.out W hW) ?_
        refine wpQuiet_step (fun K hK => ?_); go_simp; refine ⟨_, fun _ _ => rfl, hK _ ?_⟩; clear hK K
        refine wpQuiet_nil ?_
        intro w3 hx3
        have HX3 := Lib.hid (show Ext w w3 from hx3)
        clear hx3 hq
        by_cases hxy : x = y
        · have dq : decide (x = y) = true := decide_eq_true hxy
          rw [dq]
          have HS2 := Lib.hid (HSN.out hxy)
          clear hxy dq
          go_wp2
          go_roundg g
          case measure => omega
          case rel => exact ⟨i + 1, by have := HIG.out; omega, by rw [w64_succ i (by have := HLA.out; omega)], HX3.out, HS2.out⟩
        · have dq : decide (x = y) = false := decide_eq_false hxy
          rw [dq]
          have hv := HFI.out hxy
          subst hv
          clear hxy dq HFI HF HT
          go_wp2
          go_ret
          exact ⟨rfl, HX3.out⟩
  · have hv : decide (a = b) = false := decide_eq_false (fun e => hlm (by rw [e]))
    rw [hv]
    obtain ⟨n, hn⟩ : ∃ n, a.length = n := ⟨_, rfl⟩
    obtain ⟨m, hm⟩ : ∃ m, b.length = m := ⟨_, rfl⟩
    rw [hn, hm] at hlm ⊢
    have hlI : ¬ (n : Int) = (m : Int) := by omega
    clear ha hb hla hn hm hv
    go_enter Tryd.func14, Tryd.ntmps14
    go_wp2
    go_ret
    exact ⟨rfl, Ext.refl _⟩
end Go.Proofs.YthbfodmpoheahaaDoor

/-
  The law MerkleTells, walked, under what the functions of layers 10 and 11 and the document's Of are to do. Conditions: none.
-/
namespace Go.Proofs.YthbfodmpoheahaaDoor
open Go.RowKit
open Pol (co Sm)

theorem dep_big (rows : List (List Nat)) (i : Nat) (h : rows.length ≤ 12) : (mprf sha rows i).length ≤ 12 := by
  rw [mprf_len sha rows.length rows i (Nat.le_refl _)]
  exact Nat.le_trans (dep_le rows.length rows.length i (Nat.le_refl _)) h
theorem run_eq_dg (D : List Nat) (h : D.length = 32) (hs : Sm D) (W : World) : (binOp .eql 30 (dgv D) (dgv D)).run Tryd.prog W = .ok (.bool true) W := by
  have h1 := run_eq_dgc (bt_dgc D) (bt_dgc D) h h hs hs W
  rw [decide_eq_true rfl] at h1
  exact h1
set_option maxHeartbeats 1600000 in
set_option maxRecDepth 100000 in
theorem tells11_walk (S : ShaOH) (C : MerkleSaid) (R : RefOf) (rows : List (List Nat)) (at' : Int) (A : Option Addr) (c : Nat) (w : World) (hgl : GL w) (hr : RRd w A rows) (hc : rows.length ≤ c) (hl : rows.length ≤ maxLen) :
    Calls Tryd.prog 3 #[.slice A rows.length c, .int .i64 at'] w (Holds w) := by
  have HAW := Lib.hid (fun W (h : Ext w W) => awake11 S C W (hgl.ext h))
  have HFW := Lib.hid (fun W (h : Ext w W) => few11 rows A c W (hr.ext h) hl)
  have HC := Lib.hid hc
  have hls := fun (h : fewQ rows) => show ∀ i, i < rows.length → (ro rows i).length ≤ 32768 from fun i hi => Nat.le_trans (h.2 i hi) (by decide)
  have HRT := Lib.hid (fun (h : fewQ rows) W (hx : Ext w W) => C.root rows A c W (hgl.ext hx) (hr.ext hx) hc (by have := h.1; omega) (hls h))
  have HRR := Lib.hid (fun (h : fewQ rows) W (hx : Ext w W) => ref11_root R 4096 rows A c W (by have := h.1; omega) (hr.ext hx) hc (by have := h.1; omega) (hls h))
  have HPR := Lib.hid (fun (h : fewQ rows) i (hi : i < rows.length) W (hx : Ext w W) => C.prf rows i A c W hi (hgl.ext hx) (hr.ext hx) hc (by have := h.1; omega) (hls h))
  have HPX := Lib.hid (fun (h : at' < 0 ∨ (rows.length : Int) ≤ at') W => C.prx rows.length c at' A W h)
  have HRP := Lib.hid (fun (h : fewQ rows) i (hi : i < rows.length) W (hx : Ext w W) => ref11_proof R 4096 rows i A c W (by have := h.1; omega) hi (hr.ext hx) hc (by have := h.1; omega) (hls h))
  have HDB := Lib.hid (fun (h : fewQ rows) i => dep_big rows i h.1)
  have HQ := Lib.hid (fun W => run_eq_dg (mroot sha rows) (mroot_32 _) (mroot_sm _) W)
  obtain ⟨n, hn⟩ : ∃ n, rows.length = n := ⟨_, rfl⟩
  rw [hn] at HFW HRT HRR HPR HPX HRP ⊢
  unfold ProofS at HPR
  unfold DOwn at HRP
  unfold dgv at HRT HRR HQ
  obtain ⟨VR, hVR⟩ : ∃ V, bt 32 (co (mroot sha rows)) = V := ⟨_, rfl⟩
  rw [hVR] at HRT HRR HQ
  clear hgl hr hc hl hls hn hVR
  go_enter Tryd.func3, Tryd.ntmps3
  go_wp2_with fail
  refine (HAW.out _ (Ext.refl w)).mono ?_
  rintro e w1 ⟨rfl, hx1⟩
  have HX1 := Lib.hid hx1
  clear hx1
  go_wp2_with fail
  refine (HFW.out _ HX1.out).mono ?_
  rintro e w2 ⟨b, rfl, hq, rfl⟩
  cases b with
  | false =>
    clear hq
    go_wp2_with fail
    refine (HAW.out _ HX1.out).mono ?_
    rintro e w3 ⟨rfl, hx3⟩
    have HX3 := Lib.hid (HX1.out.trans hx3)
    clear hx3
    go_wp2
    go_ret
    exact ⟨rfl, HX3.out⟩
  | true =>
    have HF := Lib.hid (hq rfl)
    have hqe := HQ.out
    clear hq
    by_cases hin : 0 ≤ at' ∧ at' < (n : Int)
    · obtain ⟨i, rfl⟩ : ∃ i : Nat, at' = (i : Int) := ⟨at'.toNat, by omega⟩
      have hi : i < n := by omega
      have HP := Lib.hid (HPR.out HF.out i hi)
      have HP2 := Lib.hid (HRP.out HF.out i hi)
      have HL := Lib.hid (HDB.out HF.out i)
      have d1 : decide ((i : Int) < 0) = false := decide_eq_false (by omega)
      have n1 : ¬ (i : Int) < 0 := by omega
      have d2 : decide ((i : Int) ≥ (n : Int)) = false := decide_eq_false (by omega)
      have n2 : ¬ (n : Int) ≤ (i : Int) := by omega
      clear hin hi HPX
      go_wp2_with fail
      refine (HP.out _ HX1.out).mono ?_
      rintro e w3 ⟨v, rfl, hm, hx3⟩
      have HX3 := Lib.hid (HX1.out.trans hx3)
      obtain ⟨B, k, rfl, hk, hrd⟩ := hm.slice
      have HRD := Lib.hid hrd
      clear hm hx3 hk hrd
      go_wp2_with fail
      refine (HRT.out HF.out _ HX3.out).mono ?_
      rintro e w4 ⟨rfl, hx4⟩
      have HX4 := Lib.hid (HX3.out.trans hx4)
      have HRD4 := Lib.hid (HRD.out.ext hx4)
      clear hx4
      go_wp2_with fail
      refine (HRR.out HF.out _ HX4.out).mono ?_
      rintro e w5 ⟨rfl, hx5⟩
      have HX5 := Lib.hid (HX4.out.trans hx5)
      have HRD5 := Lib.hid (HRD4.out.ext hx5)
      clear hx5
      go_wp2_with fail
      refine (HP2.out _ HX5.out).mono ?_
      rintro e w6 ⟨v, rfl, hm, hx6⟩
      have HX6 := Lib.hid (HX5.out.trans hx6)
      have HRD6 := Lib.hid (HRD5.out.ext hx6)
      obtain ⟨B2, k2, rfl, hk2, hrd2⟩ := hm.slice
      have HSM := Lib.hid (same11 (mprf sha rows i) (mprf sha rows i) B B2 k k2 w6 HRD6.out hrd2 (by have := HL.out; omega))
      rw [decide_eq_true rfl] at HSM
      clear hm hx6 hk2 hrd2
      go_wp2_with fail
      refine HSM.out.mono ?_
      rintro e w7 ⟨rfl, hx7⟩
      have HX7 := Lib.hid (HX6.out.trans hx7)
      clear hx7
      go_wp2
      go_ret
      exact ⟨rfl, HX7.out⟩
    · have ho : at' < 0 ∨ (n : Int) ≤ at' := by omega
      have HP := Lib.hid (HPX.out ho)
      clear hin
      by_cases h0 : at' < 0
      · have d1 : decide (at' < 0) = true := decide_eq_true h0
        clear ho
        go_wp2_with fail
        refine (HP.out _).mono ?_
        rintro e w3 ⟨rfl, hx3⟩
        have HX3 := Lib.hid (HX1.out.trans hx3)
        clear hx3
        go_wp2_with fail
        refine (HRT.out HF.out _ HX3.out).mono ?_
        rintro e w4 ⟨rfl, hx4⟩
        have HX4 := Lib.hid (HX3.out.trans hx4)
        clear hx4
        go_wp2_with fail
        refine (HRR.out HF.out _ HX4.out).mono ?_
        rintro e w5 ⟨rfl, hx5⟩
        have HX5 := Lib.hid (HX4.out.trans hx5)
        clear hx5
        go_wp2
        go_ret
        exact ⟨rfl, HX5.out⟩
      · have d1 : decide (at' < 0) = false := decide_eq_false h0
        have h2 : (n : Int) ≤ at' := by omega
        have d2 : decide (at' ≥ (n : Int)) = true := decide_eq_true h2
        clear ho
        go_wp2_with fail
        refine (HP.out _).mono ?_
        rintro e w3 ⟨rfl, hx3⟩
        have HX3 := Lib.hid (HX1.out.trans hx3)
        clear hx3
        go_wp2_with fail
        refine (HRT.out HF.out _ HX3.out).mono ?_
        rintro e w4 ⟨rfl, hx4⟩
        have HX4 := Lib.hid (HX3.out.trans hx4)
        clear hx4
        go_wp2_with fail
        refine (HRR.out HF.out _ HX4.out).mono ?_
        rintro e w5 ⟨rfl, hx5⟩
        have HX5 := Lib.hid (HX4.out.trans hx5)
        clear hx5
        go_wp2
        go_ret
        exact ⟨rfl, HX5.out⟩
end Go.Proofs.YthbfodmpoheahaaDoor

/-
  A load under a guard, in a quiet walk. Conditions: none; no function is named here.
-/
namespace Go.Proofs.YthbfodmpoheahaaDoor
open Go.RowKit

section
variable {P : Program} {ops : Array Oper} {C : World → Prop} {Q : Act → Prop}
theorem wpQuiet_load_g {o : Oper} {rest : List Oper} {a : Act} (hw : Region.wanted o (yielded ops a.tmps) = true) (ty : TypeId) (x : Operand) (ho : o.op = .load ty x) (v : Value)
    (hrun : ∀ w, C w → (Instr.loadAt ty (a.eval x)).run P w = .ok v w) (h : wpQuiet P ops C Q rest (a.put o.dst v)) : wpQuiet P ops C Q (o :: rest) a := by
  unfold wpQuiet
  rw [if_pos hw]
  refine ⟨v, fun w hw => ?_, h⟩
  unfold Oper.quietAt
  simp only [execOp, ho, Sem.run_bind, hrun w hw, Result.andThen, Sem.run_pure]
  exact ⟨rfl, rfl⟩
end
end Go.Proofs.YthbfodmpoheahaaDoor

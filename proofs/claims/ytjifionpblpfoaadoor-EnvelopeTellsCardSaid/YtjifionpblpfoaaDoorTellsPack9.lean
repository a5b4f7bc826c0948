/-
  Part 9 of the texts that the seat's proofs stand on; each part of it begins with its own sentence and conditions. Conditions: those that each theorem names.
-/
import Derived.Test.YtjifionpblpfoaaDoorTellsPack8
import Derived.Laws.BytesString
import Derived.Deep.DeepCutAuto
import Derived.Maps.AppendAt
import Derived.Great.BuildSlice

/-
  What Of of layer 10 does. Conditions: no more than 2^16 bytes; the constants lie where they were laid.
-/
namespace Go.Proofs.YtjifionpblpfoaaDoor
open Go.RowKit
open Pol (co Sm)

theorem wl_congr {f f' : Nat → Nat} (h : ∀ i, i < 16 → f i = f' i) : ∀ n, wl f n = wl f' n
  | 0 => rfl
  | n + 1 => by
    rw [wl, wl, wl_congr h n]
    by_cases e : n < 16
    · rw [if_pos e, if_pos e, h n e]
    · rw [if_neg e, if_neg e]
theorem blk_congr {K H : List Nat} {f f' : Nat → Nat} (h : ∀ i, i < 16 → f i = f' i) : blk K f H = blk K f' H := by unfold blk; rw [wl_congr h 64]
/-- Blocks of one list, then of another. -/
theorem hsh_left {H K t u : List Nat} : ∀ n, 64 * n ≤ t.length → hsh H K (t ++ u) n = hsh H K t n
  | 0, _ => rfl
  | n + 1, h => by
    rw [hsh, hsh, hsh_left n (by omega)]
    refine blk_congr (fun i hi => ?_)
    have e : ∀ j, j < t.length → co (t ++ u) j = co t j := fun j hj => by unfold co; rw [List.getElem?_append_left hj]
    unfold word
    rw [e _ (by omega), e _ (by omega), e _ (by omega), e _ (by omega)]
theorem hsh_right {H K t u : List Nat} {m : Nat} (h : t.length = 64 * m) : ∀ n, hsh (hsh H K t m) K u n = hsh H K (t ++ u) (m + n)
  | 0 => by rw [hsh, Nat.add_zero, hsh_left m (by omega)]
  | n + 1 => by
    rw [hsh, hsh_right h n, ← Nat.add_assoc, hsh]
    refine blk_congr (fun i hi => ?_)
    have e : ∀ j k, j = t.length + k → co u k = co (t ++ u) j := fun j k hj => by
      subst hj
      unfold co
      rw [List.getElem?_append_right (by omega), Nat.add_sub_cancel_left]
    unfold word
    rw [e (64 * (m + n) + 4 * i) (64 * n + 4 * i) (by omega), e (64 * (m + n) + 4 * i + 1) (64 * n + 4 * i + 1) (by omega), e (64 * (m + n) + 4 * i + 2) (64 * n + 4 * i + 2) (by omega), e (64 * (m + n) + 4 * i + 3) (64 * n + 4 * i + 3) (by omega)]

/-- The block of an array of 32 bits' numbers behind a loop that writes another block. -/
theorem WBlk.grown {T : TypeId} {n : Nat} {w w' : World} {g d : Nat} {f : Nat → Nat} (h : WBlk T n w g f) (hg : w.grownBy w' (some d)) (hne : g ≠ d) : WBlk T n w' g f := h.keep hg (fun e => hne (by injection e))

set_option maxHeartbeats 3200000 in
set_option maxRecDepth 100000 in
theorem sh_of (b : List Nat) (A : Option Addr) (ca : Nat) (w : World) (hgl : GL w) (hr : Rd w A b) (hc : b.length ≤ ca) (hl : b.length ≤ 65536) :
    Calls Tryd.prog 19 #[.slice A b.length ca] w (DgS (sha b) w) := by
  obtain ⟨g0, hg0⟩ : ∃ g, w.heap.size = g := ⟨_, rfl⟩
  have HW0 := Lib.hid hg0
  obtain ⟨n, hn⟩ : ∃ n, b.length = n := ⟨_, rfl⟩
  have HN := Lib.hid hn
  have HR := Lib.hid hr
  have HGL := Lib.hid (fun W (h : Ext w W) => hgl.ext h)
  rw [hn] at hc hl ⊢
  obtain ⟨k, hk⟩ : ∃ k, 64 * (n / 64) = k := ⟨_, rfl⟩
  have hkn : k ≤ n := by omega
  have em : (n : Int).tmod 64 = ((n % 64 : Nat) : Int) := by rw [Int.tmod_eq_emod_of_nonneg (by omega)]; omega
  have em2 : (n : Int) - (n : Int) % 64 = (k : Int) := by omega
  have ew : wrap64 ((n : Int) - (n : Int) % 64) = (k : Int) := by unfold wrap64; omega
  have HK := Lib.hid hk
  have hT := (HGL.out w (Ext.refl w)).1
  obtain ⟨V0, hV0⟩ : ∃ V, dt 8 (co HH) = V := ⟨_, rfl⟩
  have HG0 := Lib.hid (show ∀ W, Ext w W → ∃ T, W.heap[0]? = some (.cells V0 T (0, 0)) from fun W h => by rw [← hV0]; exact (HGL.out W h).1)
  have HI0 := Lib.hid (show (Tryd.prog.info? 73).map (·.size) = some V0.size from by rw [← hV0]; exact info_state _)
  have hz := zero_digest.1
  have HZ32 := Lib.hid (fun (_ : Unit) => show (bt 32 fun _ => 0).size = 32 from bt_size _ _)
  obtain ⟨Z, hZ⟩ : ∃ Z, (bt 32 fun _ => 0) = Z := ⟨_, rfl⟩
  -- the slices, the two states
  have ht := run_to_u8 A n ca k (by omega)
  obtain ⟨X, hx, hxr, _⟩ := run_rest_u8 A n ca k hkn hc
  have HTK := Lib.hid (show (b.take k).length = k from by rw [List.length_take, HN.out]; omega)
  have HDK := Lib.hid (show (b.drop k).length = n - k from by rw [List.length_drop, HN.out])
  have HXR := Lib.hid (fun W (h : Ext w W) => show Rd W X (b.drop k) from by
    have h2 := hxr W b (HR.out.ext h) HN.out
    have e : tab (n - k) (fun j => co b (k + j)) = b.drop k := dr_ext (by rw [tab_len, HDK.out]) (fun i hi => by
      rw [tab_len] at hi
      rw [co_tab, if_pos hi]
      unfold co
      rw [List.getElem?_drop])
    rwa [e] at h2)
  obtain ⟨S1, hS1⟩ : ∃ S, hsh HH KK (b.take k) (k / 64) = S := ⟨_, rfl⟩
  obtain ⟨EB, hEB⟩ : ∃ l, endb (b.drop k) n = l := ⟨_, rfl⟩
  obtain ⟨N2, hN2⟩ : ∃ N, EB.length = N := ⟨_, rfl⟩
  obtain ⟨S2, hS2⟩ : ∃ S, hsh S1 KK EB (N2 / 64) = S := ⟨_, rfl⟩
  have hS1l : S1.length = 8 := by rw [← hS1]; exact hsh_len _ _ _ HH_len _
  have hS1w : W32 S1 := by rw [← hS1]; exact hsh_w32 _ _ _ HH_w32 _
  have HT1 := Lib.hid (fun W (h : Ext w W) => show Calls Tryd.prog 38 #[.agg V0, .slice A k ca] W (Tells (.agg (dt 8 (co S1))) W) from by
    have h1 := sh_through HH (b.take k) A ca W (HGL.out W h) HH_w32 HH_len ((HR.out.ext h).take k) (by rw [HTK.out]; omega) (by rw [HTK.out, ← HK.out]; omega) (by rw [HTK.out]; omega)
    rw [HTK.out, hV0, hS1] at h1
    exact h1)
  have HEN := Lib.hid (fun W (h : Ext w W) => show Calls Tryd.prog 39 #[.slice X (n - k) (ca - k), .int .i64 (n : Int)] W (Gives EB W) from by
    have h1 := sh_ending (b.drop k) X (ca - k) n W (HXR.out W h) (by rw [HDK.out, ← HK.out]; omega) (by omega)
    rw [HDK.out, hEB] at h1
    exact h1)
  have HE2 := Lib.hid (show N2 % 64 = 0 ∧ N2 ≤ 1048576 from by
    have hp : padz n = (119 - n % 64) % 64 := rfl
    rw [← hN2, ← hEB, endb_len, HDK.out, hp, ← HK.out]
    omega)
  have HT2 := Lib.hid (fun W (h : Ext w W) B c (hB : Rd W B EB) (hcB : N2 ≤ c) => show Calls Tryd.prog 38 #[.agg (dt 8 (co S1)), .slice B N2 c] W (Tells (.agg (dt 8 (co S2))) W) from by
    have h1 := sh_through S1 EB B c W (HGL.out W h) hS1w hS1l hB (by rw [hN2]; exact hcB) (by rw [hN2]; exact HE2.out.1) (by rw [hN2]; exact HE2.out.2)
    rw [hN2, hS2] at h1
    exact h1)
  have HSE := Lib.hid (fun (_ : Unit) => show hsh HH KK (padded b) ((padded b).length / 64) = S2 from by
    have e := endb_padded b k
    rw [HN.out, hEB] at e
    rw [← e, List.length_append, HTK.out, hN2, ← hS2, ← hS1, hsh_right (m := k / 64) (by rw [HTK.out, ← HK.out]; omega)]
    congr 1
    have := HK.out
    omega)
  have HNB := Lib.hid hN2
  have HS2L := Lib.hid (show S2.length = 8 from by rw [← hS2]; exact hsh_len _ _ _ hS1l _)
  have HS2W := Lib.hid (show W32 S2 from by rw [← hS2]; exact hsh_w32 _ _ _ hS1w _)
  have HIS := Lib.hid (fun S => info_state (co S))
  have HZL := Lib.hid (show dt 8 (fun _ => 0) = #[.int .u32 0, .int .u32 0, .int .u32 0, .int .u32 0, .int .u32 0, .int .u32 0, .int .u32 0, .int .u32 0] from rfl)
  have HGLD := Lib.hid (fun W (h : Ext w W) => show (Instr.loadAt 73 (.pointer (some ⟨0, 0, none⟩))).run Tryd.prog W = .ok (.agg V0) W from by
    obtain ⟨T, hT⟩ := HG0.out W h
    simp only [Instr.loadAt, Instr.sureAddr, Sem.run_bind, Sem.run_pure, Result.andThen]
    exact run_loadVar_row W 0 T 73 V0 (0, 0) _ hT Tryd.underlying73 rfl HI0.out)
  clear hEB hS1w hS1l hS1 hS2 hN2 hV0 hT hgl hr hn hxr hk
  rw [hZ] at hz HZ32
  go_enter Tryd.func19, Tryd.ntmps19
  go_wp2_with fail
  have HX1 := Lib.hid ((Ext.refl w).alloc (.cells Z 39))
  have HR0 := Lib.hid (show (w.alloc (.cells Z 39)).heap[g0]? = some (.cells Z 39 (0, 0)) from by rw [← hg0]; exact heap_alloc_new w _)
  have HS0 := Lib.hid (show g0 < (w.alloc (.cells Z 39)).heap.size from by rw [← hg0]; simp)
  generalize w.alloc (.cells Z 39) = w1 at HX1 HR0 HS0 ⊢
  obtain ⟨V1, hV1⟩ : ∃ V, dt 8 (co S1) = V := ⟨_, rfl⟩
  have HI1 := Lib.hid (info_state (co S1))
  have HSR1 := Lib.hid (show (dt 8 fun _ => 0).size = (dt 8 (co S1)).size from by rw [dt_size, dt_size])
  have HOR1 := Lib.hid (dt_one 8 (co S1))
  obtain ⟨V2, hV2⟩ : ∃ V, dt 8 (co S2) = V := ⟨_, rfl⟩
  have HI2 := Lib.hid (info_state (co S2))
  have HSR2 := Lib.hid (show (dt 8 (co S1)).size = (dt 8 (co S2)).size from by rw [dt_size, dt_size])
  have HOR2 := Lib.hid (dt_one 8 (co S2))
  have HVE2 := Lib.hid (fun (_ : Unit) => hV2)
  rw [hV1] at HT1 HT2 HI1 HSR1 HOR1 HSR2
  rw [hV2] at HT2 HI2 HSR2 HOR2
  clear hV1 hV2
  go_wp2
  refine wp_region_plan (AfterT w1) [0, 1, 2, 3, 4, 5] (.yes 0 (.yes 1 (.yes 2 (.yes 3 (.two 4 (.one 5 (.one 6 .done)) 5 (.one 4 (.one 6 .done))))))) (by kernel_rfl) (fun c a a' w e h => ⟨e ▸ h.1, h.2⟩) (by kernel_rfl) ((Ext.refl w1).drew) ?_
  refine plan_load rfl 73 (.global 0) rfl (.agg V0) (by first | rfl | go_simp) (fun W hW => HGLD.out W (HX1.out.trans hW)) ?_
  refine plan_yes rfl (fun K hK => ?_); go_simp; refine ⟨_, fun _ _ => rfl, hK _ ?_⟩; clear hK K
  refine plan_yes rfl (fun K hK => ?_); go_simp; refine ⟨_, fun _ _ => rfl, hK _ ?_⟩; clear hK K
  refine plan_yes rfl (fun K hK => ?_); go_simp; refine ⟨_, fun W _ => rfl, hK _ ?_⟩; clear hK K
  refine plan_two rfl rfl (fun K hK => ?_) (fun K hK => ?_)
  · go_wp2_with fail
    refine (HT1.out _ (HX1.out.drew)).mono ?_
    rintro e v4 ⟨rfl, hx4⟩
    have HX4 := Lib.hid (show AfterT w1 v4 from Ext.trans ((Ext.refl w1).drew) hx4)
    clear hx4
    go_wp2
    refine ⟨fun _ => HX4.out, ?_⟩
    refine plan_one rfl (fun K hK => ?_)
    go_wp2
    have HX6 := Lib.hid (show AfterT w1 (World.alloc v4 (.cells (dt 8 fun _ => 0) 73)) from Ext.alloc HX4.out _)
    have HB6 := Lib.hid (WBlk.new (T := 73) (n := 8) v4 (fun _ => 0))
    have HGX := Lib.hid (show w1.heap.size ≤ (v4).heap.size from Ext.size HX4.out)
    rw [HZL.out] at HX6 HB6
    refine ⟨fun _ => HX6.out, ?_⟩
    generalize hgx : (v4).heap.size = gx at HB6 HGX ⊢
    generalize World.alloc v4 _ = v6 at HX6 HB6 ⊢
    clear hgx
    refine plan_one rfl (fun K hK => ?_)
    have HG7 := Lib.hid (setRow_heap _ gx _ V1 _ _ HB6.out)
    have HX7 := Lib.hid (Ext.setRow HX6.out HGX.out V1)
    have hb0 := HB6.out
    unfold WBlk at hb0
    have HB0 := Lib.hid hb0
    clear hb0
    go_wp2_with (with_reducible refine wpList_store_all rfl 73 (.tmp 4) (.tmp 17) rfl gx (dt 8 fun _ => 0) V1 rfl rfl HB0.out HI1.out HSR1.out HOR1.out ?_)
    refine ⟨fun h => absurd h (by decide), ?_⟩
    unfold wpPlan
    obtain ⟨wz, hwz⟩ : ∃ q, World.setRow v6 gx V1 = q := ⟨_, rfl⟩
    rw [hwz] at HG7 HX7 ⊢
    clear hwz
    have HLS := Lib.hid (fun W (h : AfterT wz W) => run_load_all W gx 73 V1 8 72 Tryd.underlying73 (WBlk.ext' HG7.out h) HI1.out)
    have HXZ := Lib.hid (HX1.out.trans HX7.out)
    go_wp2
    refine wp_region_plan (AfterT wz) [0, 1, 2, 3, 4, 5, 6] (.yes 0 (.yes 1 (.yes 2 (.yes 3 (.yes 4 (.yes 5 (.one 6 (.one 7 (.one 8 .done))))))))) (by kernel_rfl) (fun c a a' w e h => ⟨e ▸ h.1, h.2⟩) (by kernel_rfl) ((Ext.refl wz).drew) ?_
    refine plan_load rfl 73 (.tmp 4) rfl (.agg V1) (by first | rfl | go_simp) (fun W hW => HLS.out W hW) ?_
    refine plan_yes rfl (fun K hK => ?_); go_simp; refine ⟨_, fun _ _ => rfl, hK _ ?_⟩; clear hK K
    refine plan_yes rfl (fun K hK => ?_); go_simp; refine ⟨_, fun _ _ => rfl, hK _ ?_⟩; clear hK K
    refine plan_yes rfl (fun K hK => ?_); go_simp; refine ⟨_, fun _ _ => rfl, hK _ ?_⟩; clear hK K
    refine plan_yes rfl (fun K hK => ?_); go_simp; refine ⟨_, fun _ _ => rfl, hK _ ?_⟩; clear hK K
    refine plan_yes rfl (fun K hK => ?_); go_simp; refine ⟨_, fun _ _ => rfl, hK _ ?_⟩; clear hK K
    refine plan_one rfl (fun K hK => ?_)
    go_wp2_with fail
    refine (HEN.out _ (HXZ.out.drew)).mono ?_
    rintro e v7 ⟨BE, cE, rfl, hcE, hrE, hx7⟩
    rw [HNB.out] at hcE ⊢
    have HX8 := Lib.hid (show AfterT wz v7 from Ext.trans ((Ext.refl wz).drew) hx7)
    have HRE := Lib.hid hrE
    clear hx7 hrE
    go_wp2
    refine ⟨fun _ => HX8.out, ?_⟩
    refine plan_one rfl (fun K hK => ?_)
    go_wp2_with fail
    refine (HT2.out _ (HXZ.out.trans HX8.out) BE cE HRE.out hcE).mono ?_
    rintro e v8 ⟨rfl, hx8⟩
    have HX9 := Lib.hid (show AfterT wz v8 from Ext.trans HX8.out hx8)
    clear hx8
    go_wp2
    refine ⟨fun h => absurd h (by decide), ?_⟩
    refine plan_one rfl (fun K hK => ?_)
    have HB8 := Lib.hid (WBlk.ext' HG7.out HX9.out)
    have HGA := Lib.hid (setRow_heap _ gx _ V2 _ _ HB8.out)
    have HXA := Lib.hid (Ext.setRow (HX7.out.trans HX9.out) HGX.out V2)
    go_wp2_with (with_reducible refine wpList_store_all rfl 73 (.tmp 4) (.tmp 25) rfl gx V1 V2 rfl rfl HB8.out HI2.out HSR2.out HOR2.out ?_)
    refine ⟨fun h => absurd h (by decide), ?_⟩
    unfold wpPlan
    obtain ⟨wy, hwy⟩ : ∃ q, World.setRow v8 gx V2 = q := ⟨_, rfl⟩
    rw [hwy] at HGA HXA ⊢
    clear hwy
    have HRY := Lib.hid (WBlk.ext' HR0.out HXA.out)
    have HSY := Lib.hid (show gx < wy.heap.size from (Array.getElem?_eq_some_iff.1 HGA.out).1)
    have HXY := Lib.hid (HX1.out.trans HXA.out)
    have HGY := Lib.hid (show WBlk 73 8 wy gx (co S2) from by unfold WBlk; rw [HVE2.out ()]; exact HGA.out)
    have hbs : Z.size = 32 := HZ32.out ()
    have hbo : Z.all (·.oneCell') = true := by rw [← hZ]; exact bt_one _ _
    have g1 := heap_alloc_new wy (.cells Z 39)
    have hst := store32 (wy.alloc (.cells Z 39)) wy.heap.size (fun _ => 0) (fun _ => 0) (by unfold DBlk; rw [hZ]; exact g1)
    rw [hZ, setRow_same _ _ _ _ g1] at hst
    have HG1 := Lib.hid (show DBlk (wy.alloc (.cells Z 39)) wy.heap.size (fun _ => 0) from by unfold DBlk; rw [hZ]; exact g1)
    have HXD := Lib.hid ((Ext.refl wy).alloc (.cells Z 39))
    clear g1
    go_wp2_with fail
    clear hst hbs hbo
    obtain ⟨db, hdb⟩ : ∃ db, wy.heap.size = db := ⟨_, rfl⟩
    have HDB := Lib.hid hdb
    rw [hdb] at HG1 HSY ⊢
    clear hdb
    have HRW := Lib.hid (WBlk.ext' HRY.out HXD.out)
    have HGW := Lib.hid (WBlk.ext HGY.out HXD.out)
    have HXW := Lib.hid (HXY.out.trans HXD.out)
    have HG0D := Lib.hid (show g0 < db from by have := (Array.getElem?_eq_some_iff.1 HRY.out).1; have := HDB.out; omega)
    generalize wy.alloc (.cells Z 39) = W at HG1 HXD HRW HGW HXW ⊢
    go_loopg [27] 32 (fun gk s27 wx => ∃ i : Nat, i + gk = 32 ∧ s27 = .int .i64 (i : Int) ∧ DBlk wx db (fun j => if j < i then digB S2 j else 0) ∧ W.grownBy wx (some db))
    case atStart => exact ⟨0, by omega, rfl, HG1.out.congr (fun i _ => by rw [if_neg (by omega)]), ⟨rfl, rfl, rfl, Nat.le_refl _, fun _ _ _ => rfl⟩⟩
    case round =>
      obtain ⟨i, hig, rfl, hb, hg2⟩ := hrel
      have HB2 := Lib.hid hb
      have HG2 := Lib.hid hg2
      have HIG := Lib.hid hig
      clear hb hg2 hig
      cases gk with
      | zero =>
        have hi32 : 32 ≤ i := by have := HIG.out; omega
        have hi : ¬ ((i : Int) < 32) := by omega
        have d1 : decide ((i : Int) < 32) = false := decide_eq_false hi
        have hbl := HB2.out.congr (f' := digB S2) (fun j hj => by rw [if_pos (by omega)])
        have hrw := (HG2.out.block g0 (by have := (Array.getElem?_eq_some_iff.1 HRW.out).1; exact this) (fun e => by injection e with e; have := HG0D.out; omega)).trans HRW.out
        have HBL := Lib.hid hbl
        have HRR := Lib.hid hrw
        have HG3 := Lib.hid (setRow_heap _ _ _ (bt 32 (digB S2)) _ _ hrw)
        have HX3 := Lib.hid ((HXW.out.more HG2.out (fun q e => by injection e with e; rw [← e, HW0.out]; exact Nat.le_of_lt HG0D.out)).setRow (g := g0) (by rw [HW0.out]; exact Nat.le_refl _) (bt 32 (digB S2)))
        have HIN := Lib.hid (info32 (digB S2))
        have HSZ := Lib.hid (show Z.size = (bt 32 (digB S2)).size by rw [bt_size, (HZ32.out ())])
        have HON := Lib.hid (fun (_ : Unit) => (bt_one 32 (digB S2)))
        have HV := Lib.hid (show Dgc (bt 32 (digB S2)) (sha b) from ⟨bt_size _ _, fun j hj => by
          rw [bt_at 32 _ j hj]
          unfold sha shaK
          rw [co_map _ _ _ (by rw [List.length_range]; exact hj), show co (List.range 32) j = j from by unfold co; rw [List.getElem?_range hj]; rfl, HSE.out ()]⟩)
        clear hi hi32 hbl hrw
        unfold DBlk at HBL
        generalize bt 32 (digB S2) = V at HBL HG3 HX3 HIN HSZ HON HV
        go_wp2_with (first | (with_reducible refine wpList_load_row rfl 39 (.tmp 5) rfl db rfl 39 V (0, 0) _ HBL.out Tryd.underlying39 rfl HIN.out ?_) | (with_reducible refine wpList_store_all rfl 39 (.tmp 2) (.tmp 43) rfl g0 Z V rfl rfl HRR.out HIN.out HSZ.out (HON.out ()) ?_))
        exact ⟨rfl, .agg V, results_cell_row Tryd.results19 _ _ g0 39 V (0, 0) _ rfl HG3.out Tryd.underlying39 rfl HIN.out, V, rfl, HV.out, HX3.out⟩
      | succ gk =>
        have hi : i < 32 := by have := HIG.out; omega
        have hiI : (i : Int) < 32 := by omega
        obtain ⟨q, hq⟩ : ∃ q, i / 4 = q := ⟨_, rfl⟩
        obtain ⟨r, hr⟩ : ∃ r, i % 4 = r := ⟨_, rfl⟩
        obtain ⟨v, hv⟩ : ∃ v, 24 - 8 * r = v := ⟨_, rfl⟩
        have hq8 : q < 8 := by omega
        have hcq := (WBlk.grown HGW.out HG2.out (by have := HSY.out; omega)).cell q hq8
        obtain ⟨x, hx⟩ : ∃ x, co S2 q = x := ⟨_, rfl⟩
        rw [hx] at hcq
        have hx32 : x < 4294967296 := by rw [← hx]; exact HS2W.out.at q
        have e1 : (i : Int) / 4 = (q : Int) := by omega
        have e1' : (i : Int).tdiv 4 = (q : Int) := by rw [Int.tdiv_eq_ediv_of_nonneg (by omega)]; omega
        have e2 : (i : Int) % 4 = (r : Int) := by omega
        have e2' : (i : Int).tmod 4 = (r : Int) := by rw [Int.tmod_eq_emod_of_nonneg (by omega)]; omega
        have e3 : 24 - 8 * (r : Int) = (v : Int) := by omega
        have e4 : wrap64 (8 * (r : Int)) = 8 * (r : Int) := by unfold wrap64; omega
        have e5 : wrap64 (24 - 8 * (r : Int)) = (v : Int) := by unfold wrap64; omega
        have hr4 : r < 4 := by omega
        have hqI : (q : Int) < 8 := by omega
        have hv24 : v ≤ 24 := by omega
        have hfz := HB2.out.frozen i
        have hck := HB2.out.cell i hi
        have HQ := Lib.hid (fun (_ : Unit) => (show digB S2 i = x / 2 ^ v % 256 from by unfold digB; rw [hq, hr, hv, hx]))
        clear hq hr hv hx
        go_wp2_with fail
        go_roundg gk
        case measure => omega
        case rel =>
          have ev : (x : Int) / 2 ^ v % 256 = ((digB S2 i : Nat) : Int) := by rw [(HQ.out ())]; simp
          refine ⟨i + 1, by have := HIG.out; omega, by go_num, ?_, HG2.out.trans (grown_set _ _ _ _)⟩
          rw [ev]
          exact (HB2.out.store i (digB S2 i)).congr (fun j _ => by
            unfold upd
            by_cases h : j = i
            · subst h; rw [if_pos rfl, if_pos (by omega)]
            · rw [if_neg h]
              show (if j < i then digB S2 j else 0) = if j < i + 1 then digB S2 j else 0
              by_cases h2 : j < i
              · rw [if_pos h2, if_pos (by omega)]
              · rw [if_neg h2, if_neg (by omega)])
  · go_wp2
    have HX6 := Lib.hid (show AfterT w1 (World.drew (World.alloc w1 (.cells (dt 8 fun _ => 0) 73))) from (Ext.alloc (Ext.refl w1) _).drew)
    have HB6 := Lib.hid (show WBlk 73 8 (World.drew (World.alloc w1 (.cells (dt 8 fun _ => 0) 73))) w1.heap.size (fun _ => 0) from WBlk.new (T := 73) (n := 8) w1 (fun _ => 0))
    rw [HZL.out] at HX6 HB6
    refine ⟨fun _ => HX6.out, ?_⟩
    generalize hgx : w1.heap.size = gx at HB6 ⊢
    have HGX := Lib.hid (Nat.le_of_eq hgx)
    generalize (World.alloc w1 _).drew = v6 at HX6 HB6 ⊢
    clear hgx
    refine plan_one rfl (fun K hK => ?_)
    go_wp2_with fail
    refine (HT1.out _ (HX1.out.trans HX6.out)).mono ?_
    rintro e v4 ⟨rfl, hx4⟩
    have HX4 := Lib.hid (show AfterT w1 v4 from Ext.trans HX6.out hx4)
    have HB4 := Lib.hid (WBlk.ext HB6.out hx4)
    clear hx4
    go_wp2
    refine ⟨fun _ => HX4.out, ?_⟩
    refine plan_one rfl (fun K hK => ?_)
    have HG7 := Lib.hid (setRow_heap _ gx _ V1 _ _ HB4.out)
    have HX7 := Lib.hid (Ext.setRow HX4.out HGX.out V1)
    have hb0 := HB4.out
    unfold WBlk at hb0
    have HB0 := Lib.hid hb0
    clear hb0
    go_wp2_with (with_reducible refine wpList_store_all rfl 73 (.tmp 4) (.tmp 17) rfl gx (dt 8 fun _ => 0) V1 rfl rfl HB0.out HI1.out HSR1.out HOR1.out ?_)
    refine ⟨fun h => absurd h (by decide), ?_⟩
    unfold wpPlan
    obtain ⟨wz, hwz⟩ : ∃ q, World.setRow v4 gx V1 = q := ⟨_, rfl⟩
    rw [hwz] at HG7 HX7 ⊢
    clear hwz
    have HLS := Lib.hid (fun W (h : AfterT wz W) => run_load_all W gx 73 V1 8 72 Tryd.underlying73 (WBlk.ext' HG7.out h) HI1.out)
    have HXZ := Lib.hid (HX1.out.trans HX7.out)
    go_wp2
    refine wp_region_plan (AfterT wz) [0, 1, 2, 3, 4, 5, 6] (.yes 0 (.yes 1 (.yes 2 (.yes 3 (.yes 4 (.yes 5 (.one 6 (.one 7 (.one 8 .done))))))))) (by kernel_rfl) (fun c a a' w e h => ⟨e ▸ h.1, h.2⟩) (by kernel_rfl) ((Ext.refl wz).drew) ?_
    refine plan_load rfl 73 (.tmp 4) rfl (.agg V1) (by first | rfl | go_simp) (fun W hW => HLS.out W hW) ?_
    refine plan_yes rfl (fun K hK => ?_); go_simp; refine ⟨_, fun _ _ => rfl, hK _ ?_⟩; clear hK K
    refine plan_yes rfl (fun K hK => ?_); go_simp; refine ⟨_, fun _ _ => rfl, hK _ ?_⟩; clear hK K
    refine plan_yes rfl (fun K hK => ?_); go_simp; refine ⟨_, fun _ _ => rfl, hK _ ?_⟩; clear hK K
    refine plan_yes rfl (fun K hK => ?_); go_simp; refine ⟨_, fun _ _ => rfl, hK _ ?_⟩; clear hK K
    refine plan_yes rfl (fun K hK => ?_); go_simp; refine ⟨_, fun _ _ => rfl, hK _ ?_⟩; clear hK K
    refine plan_one rfl (fun K hK => ?_)
    go_wp2_with fail
    refine (HEN.out _ (HXZ.out.drew)).mono ?_
    rintro e v7 ⟨BE, cE, rfl, hcE, hrE, hx7⟩
    rw [HNB.out] at hcE ⊢
    have HX8 := Lib.hid (show AfterT wz v7 from Ext.trans ((Ext.refl wz).drew) hx7)
    have HRE := Lib.hid hrE
    clear hx7 hrE
    go_wp2
    refine ⟨fun _ => HX8.out, ?_⟩
    refine plan_one rfl (fun K hK => ?_)
    go_wp2_with fail
    refine (HT2.out _ (HXZ.out.trans HX8.out) BE cE HRE.out hcE).mono ?_
    rintro e v8 ⟨rfl, hx8⟩
    have HX9 := Lib.hid (show AfterT wz v8 from Ext.trans HX8.out hx8)
    clear hx8
    go_wp2
    refine ⟨fun h => absurd h (by decide), ?_⟩
    refine plan_one rfl (fun K hK => ?_)
    have HB8 := Lib.hid (WBlk.ext' HG7.out HX9.out)
    have HGA := Lib.hid (setRow_heap _ gx _ V2 _ _ HB8.out)
    have HXA := Lib.hid (Ext.setRow (HX7.out.trans HX9.out) HGX.out V2)
    go_wp2_with (with_reducible refine wpList_store_all rfl 73 (.tmp 4) (.tmp 25) rfl gx V1 V2 rfl rfl HB8.out HI2.out HSR2.out HOR2.out ?_)
    refine ⟨fun h => absurd h (by decide), ?_⟩
    unfold wpPlan
    obtain ⟨wy, hwy⟩ : ∃ q, World.setRow v8 gx V2 = q := ⟨_, rfl⟩
    rw [hwy] at HGA HXA ⊢
    clear hwy
    have HRY := Lib.hid (WBlk.ext' HR0.out HXA.out)
    have HSY := Lib.hid (show gx < wy.heap.size from (Array.getElem?_eq_some_iff.1 HGA.out).1)
    have HXY := Lib.hid (HX1.out.trans HXA.out)
    have HGY := Lib.hid (show WBlk 73 8 wy gx (co S2) from by unfold WBlk; rw [HVE2.out ()]; exact HGA.out)
    have hbs : Z.size = 32 := HZ32.out ()
    have hbo : Z.all (·.oneCell') = true := by rw [← hZ]; exact bt_one _ _
    have g1 := heap_alloc_new wy (.cells Z 39)
    have hst := store32 (wy.alloc (.cells Z 39)) wy.heap.size (fun _ => 0) (fun _ => 0) (by unfold DBlk; rw [hZ]; exact g1)
    rw [hZ, setRow_same _ _ _ _ g1] at hst
    have HG1 := Lib.hid (show DBlk (wy.alloc (.cells Z 39)) wy.heap.size (fun _ => 0) from by unfold DBlk; rw [hZ]; exact g1)
    have HXD := Lib.hid ((Ext.refl wy).alloc (.cells Z 39))
    clear g1
    go_wp2_with fail
    clear hst hbs hbo
    obtain ⟨db, hdb⟩ : ∃ db, wy.heap.size = db := ⟨_, rfl⟩
    have HDB := Lib.hid hdb
    rw [hdb] at HG1 HSY ⊢
    clear hdb
    have HRW := Lib.hid (WBlk.ext' HRY.out HXD.out)
    have HGW := Lib.hid (WBlk.ext HGY.out HXD.out)
    have HXW := Lib.hid (HXY.out.trans HXD.out)
    have HG0D := Lib.hid (show g0 < db from by have := (Array.getElem?_eq_some_iff.1 HRY.out).1; have := HDB.out; omega)
    generalize wy.alloc (.cells Z 39) = W at HG1 HXD HRW HGW HXW ⊢
    go_loopg [27] 32 (fun gk s27 wx => ∃ i : Nat, i + gk = 32 ∧ s27 = .int .i64 (i : Int) ∧ DBlk wx db (fun j => if j < i then digB S2 j else 0) ∧ W.grownBy wx (some db))
    case atStart => exact ⟨0, by omega, rfl, HG1.out.congr (fun i _ => by rw [if_neg (by omega)]), ⟨rfl, rfl, rfl, Nat.le_refl _, fun _ _ _ => rfl⟩⟩
    case round =>
      obtain ⟨i, hig, rfl, hb, hg2⟩ := hrel
      have HB2 := Lib.hid hb
      have HG2 := Lib.hid hg2
      have HIG := Lib.hid hig
      clear hb hg2 hig
      cases gk with
      | zero =>
        have hi32 : 32 ≤ i := by have := HIG.out; omega
        have hi : ¬ ((i : Int) < 32) := by omega
        have d1 : decide ((i : Int) < 32) = false := decide_eq_false hi
        have hbl := HB2.out.congr (f' := digB S2) (fun j hj => by rw [if_pos (by omega)])
        have hrw := (HG2.out.block g0 (by have := (Array.getElem?_eq_some_iff.1 HRW.out).1; exact this) (fun e => by injection e with e; have := HG0D.out; omega)).trans HRW.out
        have HBL := Lib.hid hbl
        have HRR := Lib.hid hrw
        have HG3 := Lib.hid (setRow_heap _ _ _ (bt 32 (digB S2)) _ _ hrw)
        have HX3 := Lib.hid ((HXW.out.more HG2.out (fun q e => by injection e with e; rw [← e, HW0.out]; exact Nat.le_of_lt HG0D.out)).setRow (g := g0) (by rw [HW0.out]; exact Nat.le_refl _) (bt 32 (digB S2)))
        have HIN := Lib.hid (info32 (digB S2))
        have HSZ := Lib.hid (show Z.size = (bt 32 (digB S2)).size by rw [bt_size, (HZ32.out ())])
        have HON := Lib.hid (fun (_ : Unit) => (bt_one 32 (digB S2)))
        have HV := Lib.hid (show Dgc (bt 32 (digB S2)) (sha b) from ⟨bt_size _ _, fun j hj => by
          rw [bt_at 32 _ j hj]
          unfold sha shaK
          rw [co_map _ _ _ (by rw [List.length_range]; exact hj), show co (List.range 32) j = j from by unfold co; rw [List.getElem?_range hj]; rfl, HSE.out ()]⟩)
        clear hi hi32 hbl hrw
        unfold DBlk at HBL
        generalize bt 32 (digB S2) = V at HBL HG3 HX3 HIN HSZ HON HV
        go_wp2_with (first | (with_reducible refine wpList_load_row rfl 39 (.tmp 5) rfl db rfl 39 V (0, 0) _ HBL.out Tryd.underlying39 rfl HIN.out ?_) | (with_reducible refine wpList_store_all rfl 39 (.tmp 2) (.tmp 43) rfl g0 Z V rfl rfl HRR.out HIN.out HSZ.out (HON.out ()) ?_))
        exact ⟨rfl, .agg V, results_cell_row Tryd.results19 _ _ g0 39 V (0, 0) _ rfl HG3.out Tryd.underlying39 rfl HIN.out, V, rfl, HV.out, HX3.out⟩
      | succ gk =>
        have hi : i < 32 := by have := HIG.out; omega
        have hiI : (i : Int) < 32 := by omega
        obtain ⟨q, hq⟩ : ∃ q, i / 4 = q := ⟨_, rfl⟩
        obtain ⟨r, hr⟩ : ∃ r, i % 4 = r := ⟨_, rfl⟩
        obtain ⟨v, hv⟩ : ∃ v, 24 - 8 * r = v := ⟨_, rfl⟩
        have hq8 : q < 8 := by omega
        have hcq := (WBlk.grown HGW.out HG2.out (by have := HSY.out; omega)).cell q hq8
        obtain ⟨x, hx⟩ : ∃ x, co S2 q = x := ⟨_, rfl⟩
        rw [hx] at hcq
        have hx32 : x < 4294967296 := by rw [← hx]; exact HS2W.out.at q
        have e1 : (i : Int) / 4 = (q : Int) := by omega
        have e1' : (i : Int).tdiv 4 = (q : Int) := by rw [Int.tdiv_eq_ediv_of_nonneg (by omega)]; omega
        have e2 : (i : Int) % 4 = (r : Int) := by omega
        have e2' : (i : Int).tmod 4 = (r : Int) := by rw [Int.tmod_eq_emod_of_nonneg (by omega)]; omega
        have e3 : 24 - 8 * (r : Int) = (v : Int) := by omega
        have e4 : wrap64 (8 * (r : Int)) = 8 * (r : Int) := by unfold wrap64; omega
        have e5 : wrap64 (24 - 8 * (r : Int)) = (v : Int) := by unfold wrap64; omega
        have hr4 : r < 4 := by omega
        have hqI : (q : Int) < 8 := by omega
        have hv24 : v ≤ 24 := by omega
        have hfz := HB2.out.frozen i
        have hck := HB2.out.cell i hi
        have HQ := Lib.hid (fun (_ : Unit) => (show digB S2 i = x / 2 ^ v % 256 from by unfold digB; rw [hq, hr, hv, hx]))
        clear hq hr hv hx
        go_wp2_with fail
        go_roundg gk
        case measure => omega
        case rel =>
          have ev : (x : Int) / 2 ^ v % 256 = ((digB S2 i : Nat) : Int) := by rw [(HQ.out ())]; simp
          refine ⟨i + 1, by have := HIG.out; omega, by go_num, ?_, HG2.out.trans (grown_set _ _ _ _)⟩
          rw [ev]
          exact (HB2.out.store i (digB S2 i)).congr (fun j _ => by
            unfold upd
            by_cases h : j = i
            · subst h; rw [if_pos rfl, if_pos (by omega)]
            · rw [if_neg h]
              show (if j < i then digB S2 j else 0) = if j < i + 1 then digB S2 j else 0
              by_cases h2 : j < i
              · rw [if_pos h2, if_pos (by omega)]
              · rw [if_neg h2, if_neg (by omega)])
end Go.Proofs.YtjifionpblpfoaaDoor

/-
  What make([]byte, 0, n) does. Conditions: no more than 2^40 bytes.
-/
namespace Go.Proofs.YtjifionpblpfoaaDoor
open Go.RowKit
open Pol (co Sm)

set_option maxRecDepth 100000 in
/-- make([]byte, 0, n). -/
theorem run_make_cap (n : Nat) (N : Int) (hN : N = (n : Int)) (hn : n ≤ 1099511627776) (w : World) :
    (Instr.makeSlice 23 (.int .i64 0) (.int .i64 N)).run Tryd.prog w = .ok (.slice (some ⟨w.heap.size, 0, none⟩) 0 n) (w.alloc (.cells (bt n fun _ => 0) 5)) := by
  subst hN
  obtain ⟨i0, hi, hz0, hz1, hz2⟩ := info_parts u8_info
  have h := run_make (P := Tryd.prog) w 23 5 i0 (.int .u8 0) Tryd.underlying23 hi hz0 .i64 .i64 0 n (by omega) (by omega) (by rw [hz2]; omega) (by omega)
  simp only [Int.toNat_natCast, hz1, Nat.mul_one] at h
  rw [h, ← bt_made]
  rfl
theorem mine_made (w : World) (n : Nat) (hn : n ≤ 1099511627776) : Mine (w.alloc (.cells (bt n fun _ => 0) 5)) w.heap.size (.slice (some ⟨w.heap.size, 0, none⟩) 0 n) [] :=
  World.ownsRow_made w (bt n fun _ => 0) n (Nat.le_refl _) (by unfold maxLen; omega) (by rw [bt_size, Nat.mul_one])
end Go.Proofs.YtjifionpblpfoaaDoor

/-
  Digits of a text, one by one. Conditions: none; no function is named here.
-/
namespace Go.Proofs.YtjifionpblpfoaaDoor
open Go.RowKit
open Pol (co Sm)

theorem hxb_size (l : List Nat) : (hxb l).size = 2 * l.length := by
  show (hxs l).toArray.size = _
  rw [List.size_toArray, hxs_len]
theorem hxs_at : ∀ (l : List Nat) (i : Nat), i < l.length → (hxs l)[2 * i]? = some (hxd (co l i / 16)) ∧ (hxs l)[2 * i + 1]? = some (hxd (co l i % 16))
  | x :: l, 0, _ => ⟨rfl, rfl⟩
  | x :: l, i + 1, h => by
    have ih := hxs_at l i (by simpa using h)
    rw [Pol.co_succ]
    exact ⟨ih.1, ih.2⟩
  | [], _, h => by simp at h

theorem idxL (L : List UInt8) (k : IntKind) (i : Nat) (v : UInt8) (hv : L[i]? = some v) (W : World) : (Instr.index 9 (.string ⟨L.toArray⟩) (.int k (i : Int))).run Tryd.prog W = .ok (.int .u8 ((v.toNat : Nat) : Int)) W := by
  have hi : i < L.length := (List.getElem?_eq_some_iff.1 hv).1
  have hs : (⟨L.toArray⟩ : ByteArray).size = L.length := by show L.toArray.size = _; simp
  rw [run_index_string W 9 _ k _ Tryd.underlying9]
  rw [dif_pos ⟨by omega, by rw [hs]; omega⟩]
  have e : (⟨L.toArray⟩ : ByteArray)[(i : Int).toNat]'(by rw [hs]; omega) = v := by
    show L.toArray[(i : Int).toNat]'(by simp; omega) = v
    simp only [Int.toNat_natCast, List.getElem_toArray]
    exact (List.getElem?_eq_some_iff.1 hv).2
  rw [e]
def dgs : List UInt8 := [48, 49, 50, 51, 52, 53, 54, 55, 56, 57, 97, 98, 99, 100, 101, 102]
theorem dgs_at : ∀ x, x < 16 → dgs[x]? = some (hxd x) := by decide
end Go.Proofs.YtjifionpblpfoaaDoor

/-
  What Hex of layer 10 does. Conditions: none but that the digest reads as bytes.
-/
namespace Go.Proofs.YtjifionpblpfoaaDoor
open Go.RowKit
open Pol (co Sm)

/-- The digits as numbers. -/
def hxn (l : List Nat) : List Nat := (hxs l).map UInt8.toNat
theorem hxn_len (l : List Nat) : (hxn l).length = 2 * l.length := by unfold hxn; rw [List.length_map, hxs_len]
theorem hxn_sm (l : List Nat) : Sm (hxn l) := Pol.co_lt_of fun x hx => by
  unfold hxn at hx
  obtain ⟨y, _, rfl⟩ := List.mem_map.1 hx
  exact y.toNat_lt
theorem hxs_append : ∀ a b : List Nat, hxs (a ++ b) = hxs a ++ hxs b
  | [], _ => rfl
  | x :: a, b => by rw [List.cons_append, hxs, hxs, hxs_append a b]; rfl
theorem hxn_more (l : List Nat) (i : Nat) (h : i < l.length) : hxn (l.take (i + 1)) = hxn (l.take i) ++ [(hxd (co l i / 16)).toNat, (hxd (co l i % 16)).toNat] := by
  unfold hxn
  rw [List.take_succ_eq_append_getElem h, hxs_append, List.map_append]
  have e : co l i = l[i] := by unfold co; rw [List.getElem?_eq_getElem h]; rfl
  rw [e]
  rfl
theorem foldl_push : ∀ (L : List UInt8) (acc : ByteArray), (L.map (fun x => (x.toNat : Int))).foldl (fun (r : ByteArray) n => r.push (UInt8.ofNat n.toNat)) acc = ⟨acc.data ++ L.toArray⟩
  | [], acc => by simp
  | x :: L, acc => by
    rw [List.map_cons, List.foldl_cons, foldl_push L]
    apply ByteArray.ext
    simp [ByteArray.push]
theorem hex_text (w : World) (b o : Nat) (l : List Nat) (n c : Nat) (hn : (hxn l).length = n) (h : Rd w (some ⟨b, o, none⟩) (hxn l)) :
    (Conv.bytesToString (.slice (some ⟨b, o, none⟩) n c)).run Tryd.prog w = .ok (.string (hxb l)) w := by
  have e0 : ((hxs l).map (fun x => (x.toNat : Int))).map (Value.int .u8) = (List.range n).map (fun j => Value.int .u8 ((co (hxn l) j : Nat) : Int)) := by
    apply List.ext_getElem
    · rw [List.length_map, List.length_map, List.length_map, List.length_range, ← hn]; unfold hxn; rw [List.length_map]
    · intro j h1 h2
      have hj : j < (hxs l).length := by simpa using h1
      simp only [List.getElem_map, List.getElem_range]
      congr 2
      unfold hxn co
      rw [List.getElem?_map, List.getElem?_eq_getElem hj]
      rfl
  have hl := run_bytesToString (P := Tryd.prog) w ⟨b, o, none⟩ n c ((hxs l).map (fun x => (x.toNat : Int))) (by
    rw [e0]
    have h2 := run_loadCells (P := Tryd.prog) (w := w) ⟨b, o, none⟩ n (fun j => Value.int .u8 ((co (hxn l) j : Nat) : Int)) (fun j hj => by
      obtain ⟨b', o', e1, hc⟩ := h.2 j (by omega)
      injection e1 with e1
      injection e1 with e2 e3
      subst e2; subst e3
      have e : (⟨b, o, none⟩ : Addr).add j = ⟨b, o + j, none⟩ := by unfold Addr.add; split <;> simp_all
      rw [e]
      exact hc)
    rw [h2])
  rw [hl, foldl_push]
  congr 1
  congr 1
  apply ByteArray.ext
  simp [hxb]

set_option maxRecDepth 100000 in
theorem and15 : ∀ x : Nat, x < 256 → bits .and .u8 (x : Int) 15 = ((x % 16 : Nat) : Int) := by decide
end Go.Proofs.YtjifionpblpfoaaDoor

/-
  What Of and Hex of layer 10 do, as one statement, for the layers above it. Conditions: no more than 2^16 bytes; the constants lie where they were laid.
-/
namespace Go.Proofs.YtjifionpblpfoaaDoor
open Go.RowKit
open Pol (co Sm)

structure ShaOH : Prop where
  of : ∀ (b : List Nat) (A : Option Addr) (c : Nat) (w : World), GL w → Rd w A b → b.length ≤ c → b.length ≤ 65536 → Calls Tryd.prog 19 #[.slice A b.length c] w (DgS (sha b) w)
theorem shaOH : ShaOH where
  of b A c w hg hr hc hl := sh_of b A c w hg hr hc hl
end Go.Proofs.YtjifionpblpfoaaDoor

/-
  The code's own Id of layer 16. Conditions: no more than 2^16 bytes; the constants of layer 10 lie where they were laid.
-/
namespace Go.Proofs.YtjifionpblpfoaaDoor
open Go.RowKit
open Pol (co Sm)

set_option maxHeartbeats 3200000 in
set_option maxRecDepth 100000 in
theorem ev_id (S : ShaOH) (s : Int) (nn f x k c : Nat) (b : List Nat) (A : Option Addr) (w : World) (hn : b.length = k) (hr : Rd w A b) (hgl : GL w) (hl : k ≤ 65536) (h1 : nn < 18446744073709551616) (h2 : f < 18446744073709551616) (h3 : x < 18446744073709551616) :
    Calls Tryd.prog 16 #[evv s nn f x A k c] w (DgS (idv sha ⟨s, nn, f, x, b⟩) w) := by
  unfold DgS
  have hz := zero_digest.1
  have HZD := Lib.hid (dgc_zero)
  obtain ⟨Z, hZ⟩ : ∃ Z, (bt 32 fun _ => 0) = Z := ⟨_, rfl⟩
  rw [hZ] at hz HZD
  have hx2 := ((Ext.refl w).alloc (.cells #[.int .i64 s, .int .u64 (nn : Int), .int .u64 (f : Int), .int .u64 (x : Int), .slice A k c] 25)).alloc (.cells Z 39)
  have hg0 : ((w.alloc (.cells #[.int .i64 s, .int .u64 (nn : Int), .int .u64 (f : Int), .int .u64 (x : Int), .slice A k c] 25)).alloc (.cells Z 39)).heap[w.heap.size]? = some (.cells #[.int .i64 s, .int .u64 (nn : Int), .int .u64 (f : Int), .int .u64 (x : Int), .slice A k c] 25) := by
    rw [heap_alloc_old _ _ (by simp)]
    exact heap_alloc_new w _
  have hr0 : ((w.alloc (.cells #[.int .i64 s, .int .u64 (nn : Int), .int .u64 (f : Int), .int .u64 (x : Int), .slice A k c] 25)).alloc (.cells Z 39)).heap[w.heap.size + 1]? = some (.cells Z 39 (0, 0)) := by
    have h := heap_alloc_new (w.alloc (.cells #[.int .i64 s, .int .u64 (nn : Int), .int .u64 (f : Int), .int .u64 (x : Int), .slice A k c] 25)) (.cells Z 39)
    rwa [show (w.alloc (.cells #[.int .i64 s, .int .u64 (nn : Int), .int .u64 (f : Int), .int .u64 (x : Int), .slice A k c] 25)).heap.size = w.heap.size + 1 from by simp] at h
  have HX2 := Lib.hid hx2
  have HG0 := Lib.hid hg0
  have HR0 := Lib.hid hr0
  have HEN := Lib.hid (fun u (hu : Ext w u) => ev_encode s nn f x k c b A u hn (hr.ext hu) hl h1 h2 h3)
  unfold EncO at HEN
  have HGL := Lib.hid hgl
  by_cases ho : Ev.ok ⟨s, nn, f, x, b⟩
  · rw [Ev.chk_ok.2 ho, Ev.bytes_ok ho] at HEN
    rw [idv_ok ho]
    have hlen := Ev.enc_len ho ⟨h1, h2, h3, hr.1⟩
    have HSM := Lib.hid (Ev.enc_sm (e := ⟨s, nn, f, x, b⟩) hr.1)
    obtain ⟨E, hE⟩ : ∃ E, Ev.enc ⟨s, nn, f, x, b⟩ = E := ⟨_, rfl⟩
    rw [hE] at HEN hlen HSM ⊢
    obtain ⟨ne, hne⟩ : ∃ q, E.length = q := ⟨_, rfl⟩
    have HNE := Lib.hid hne
    have HOF := Lib.hid (fun B cb u (hg : GL u) (h : Rd u B E) (hc : ne ≤ cb) => show Calls Tryd.prog 19 #[.slice B ne cb] u (DgS (sha E) u) from by rw [← hne]; exact S.of E B cb u hg h (by omega) (by omega))
    obtain ⟨D, hD⟩ : ∃ D, sha E = D := ⟨_, rfl⟩
    rw [hD] at HOF ⊢
    unfold DgS at HOF
    clear hr hlen hE hne hD ho hg0 hr0 hx2 hgl S
    go_enter Tryd.func16, Tryd.ntmps16
    go_wp2_with (with_reducible refine wpList_load_row rfl 25 (.tmp 1) rfl (w.heap.size) rfl 25 #[.int .i64 s, .int .u64 (nn : Int), .int .u64 (f : Int), .int .u64 (x : Int), .slice A k c] (0, 0) _ HG0.out Tryd.underlying25 rfl ev_in16 ?_)
    refine (HEN.out _ HX2.out).mono ?_
    rintro e w2 ⟨v2, rfl, hm2, hx2⟩
    obtain ⟨B2, c2, rfl, hc2, hr2⟩ := hm2.slice HSM.out
    rw [HNE.out] at hc2 ⊢
    have HX3 := Lib.hid (HX2.out.trans hx2)
    have HR3 := Lib.hid (hx2.row HR0.out)
    have HB2 := Lib.hid hr2
    have HC2 := Lib.hid hc2
    clear hx2 hm2 hr2 hc2
    go_wp2_with fail
    refine (HOF.out B2 c2 w2 (HGL.out.ext HX3.out) HB2.out HC2.out).mono ?_
    rintro e w3 ⟨V, rfl, hV, hx3⟩
    have HV := Lib.hid hV
    have HX4 := Lib.hid (HX3.out.trans hx3)
    have HR4 := Lib.hid (hx3.row HR3.out)
    have HI3 := Lib.hid hV.info
    have HO3 := Lib.hid hV.one
    have HS3 := Lib.hid (show Z.size = V.size from by rw [hV.1]; exact HZD.out.1)
    have HXF := Lib.hid (HX4.out.setRow (g := w.heap.size + 1) (by omega) V)
    have HGF := Lib.hid (setRow_heap w3 (w.heap.size + 1) _ V _ _ HR4.out)
    clear hV hx3
    go_wp2_with (with_reducible refine wpList_store_all rfl 39 (.tmp 2) (.tmp 14) rfl (w.heap.size + 1) _ V rfl rfl HR4.out HI3.out HS3.out HO3.out ?_)
    refine bodyPost_ret (results_cell_row Tryd.results16 _ _ (w.heap.size + 1) 39 _ (0, 0) _ rfl HGF.out Tryd.underlying39 rfl HI3.out) rfl ?_
    exact ⟨V, rfl, HV.out, HXF.out⟩
  · rw [idv_no ho]
    have hc0 : Ev.chk ⟨s, nn, f, x, b⟩ ≠ 0 := fun h => ho (Ev.chk_ok.1 h)
    rw [Ev.bytes_no ho] at HEN
    obtain ⟨ck, hck⟩ : ∃ q, Ev.chk ⟨s, nn, f, x, b⟩ = q := ⟨_, rfl⟩
    rw [hck] at HEN hc0
    have d1 : ((ck : Int) == 0) = false := by simp; omega
    have d2 : ((ck : Int) != 0) = true := by simp; omega
    have d3 : decide ((ck : Int) = 0) = false := decide_eq_false (by omega)
    have d4 : decide (ck = 0) = false := decide_eq_false (by omega)
    clear hr hck hc0 ho hg0 hr0 hx2 hgl S
    go_enter Tryd.func16, Tryd.ntmps16
    go_wp2_with (with_reducible refine wpList_load_row rfl 25 (.tmp 1) rfl (w.heap.size) rfl 25 #[.int .i64 s, .int .u64 (nn : Int), .int .u64 (f : Int), .int .u64 (x : Int), .slice A k c] (0, 0) _ HG0.out Tryd.underlying25 rfl ev_in16 ?_)
    refine (HEN.out _ HX2.out).mono ?_
    rintro e w1 ⟨v1, rfl, hm1, hx1⟩
    obtain ⟨B1, c1, rfl, _, _⟩ := hm1.slice Sm.nil
    have HX1 := Lib.hid (HX2.out.trans hx1)
    have HR1 := Lib.hid (hx1.row HR0.out)
    have HI3 := Lib.hid HZD.out.info
    have HO3 := Lib.hid HZD.out.one
    have HXF := Lib.hid (HX1.out.setRow (g := w.heap.size + 1) (by omega) Z)
    have HGF := Lib.hid (setRow_heap w1 (w.heap.size + 1) _ Z _ _ HR1.out)
    have HSZ := HZD.out.1
    clear hx1 hm1
    go_wp2_with (with_reducible refine wpList_store_all rfl 39 (.tmp 2) (.tmp 12) rfl (w.heap.size + 1) _ Z rfl rfl HR1.out HI3.out (HSZ.trans HSZ.symm) HO3.out ?_)
    refine bodyPost_ret (results_cell_row Tryd.results16 _ _ (w.heap.size + 1) 39 _ (0, 0) _ rfl HGF.out Tryd.underlying39 rfl HI3.out) rfl ?_
    exact ⟨Z, rfl, HZD.out, HXF.out⟩
end Go.Proofs.YtjifionpblpfoaaDoor

/-
  Layer 16's own functions encode, decode and name envelopes as they are to. Conditions: those of EnvCd.
-/
namespace Go.Proofs.YtjifionpblpfoaaDoor
open Go.RowKit
open Pol (co Sm)

theorem envCd : EnvCd where
  enc := fun s n f x k c b A w hk _ hr hl h1 h2 h3 => ev_encode s n f x k c b A w hk hr hl h1 h2 h3
  dec := fun b A n c w hn _ hr hl => ev_decode b A n c w hn hr hl
  id := fun s n f x k c b A w hg hk _ hr hl h1 h2 h3 => ev_id shaOH s n f x k c b A w hk hr hg hl h1 h2 h3
end Go.Proofs.YtjifionpblpfoaaDoor

/-
  Numbers of one kind in a block of a call's own, that are changed one by one; what stays while other blocks are written. Conditions: none.
-/
namespace Go.Proofs.YtjifionpblpfoaaDoor
open Go.RowKit
open Pol (co Sm)

section
variable {k : IntKind}
/-- The first n cells of block g are the numbers F of kind k, and may be written. -/
def NCells (k : IntKind) (w : World) (g n : Nat) (F : Nat → Nat) : Prop := ∀ i, i < n → w.cell? ⟨g, i, none⟩ = some (.int k ((F i : Nat) : Int)) ∧ w.frozen? ⟨g, i, none⟩ = false
theorem NCells.drewN {w : World} {g n : Nat} {F : Nat → Nat} (h : NCells k w g n F) (q : Nat) : NCells k (w.drewN q) g n F := h
theorem NCells.congr {w : World} {g n : Nat} {F F' : Nat → Nat} (h : NCells k w g n F) (hf : ∀ i, i < n → F i = F' i) : NCells k w g n F' := fun i hi => ⟨by rw [(h i hi).1, hf i hi], (h i hi).2⟩
theorem NCells.store {w : World} {g n : Nat} {F : Nat → Nat} (h : NCells k w g n F) (j v : Nat) : NCells k (w.setCell ⟨g, j, none⟩ (.int k (v : Int))) g n (upd F j v) := fun i hi => by
  refine ⟨?_, by rw [World.frozen?_setCell]; exact (h i hi).2⟩
  unfold upd
  by_cases e : i = j
  · subst e
    rw [if_pos rfl]
    exact World.cell?_setCell_same' _ _ _ (by rw [(h i hi).1]; rfl)
  · rw [if_neg e, World.cell?_setCell_other _ _ _ _ (fun h => e (by cases h; rfl))]
    exact (h i hi).1
theorem NCells.keep {w w' : World} {g n : Nat} {F : Nat → Nat} {row : Option Nat} (h : NCells k w g n F) (hg : w.grownBy w' row) (hne : some g ≠ row) : NCells k w' g n F := fun i hi =>
  ⟨hg.cell (h i hi).1 hne, (World.frozen?_of_block (a := ⟨g, i, none⟩) (hg.block g (block_lt_of_cell (h i hi).1) hne)).trans (h i hi).2⟩
theorem NCells.ext {w w' : World} {g n : Nat} {F : Nat → Nat} (h : NCells k w g n F) (hx : Ext w w') : NCells k w' g n F := fun i hi =>
  ⟨(hx.below.cell (p := ⟨g, i, none⟩) (block_lt_of_cell (h i hi).1)).trans (h i hi).1, (hx.below.frozen (p := ⟨g, i, none⟩) (block_lt_of_cell (h i hi).1)).trans (h i hi).2⟩
theorem NRd.keep {w w' : World} {A : Option Addr} {l : List Nat} {row : Option Nat} (h : NRd k w A l) (hg : w.grownBy w' row) (hne : ∀ b o, A = some ⟨b, o, none⟩ → 0 < l.length → some b ≠ row) : NRd k w' A l := fun i hi => by
  obtain ⟨b, o, e, hc⟩ := h i hi
  exact ⟨b, o, e, hg.cell hc (hne b o e (by omega))⟩
theorem NMine.cells {T : TypeId} {w : World} {base : Nat} {v : Value} {l : List Nat} (hm : NMine T k w base v l) : ∃ A c g, v = .slice A l.length c ∧ l.length ≤ c ∧ (0 < l.length → A = some ⟨g, 0, none⟩ ∧ base ≤ g) ∧ NCells k w g l.length (co l) := by
  rcases hm.2 with ⟨rfl, hn⟩ | ⟨g, cap, cur, rfl, hb, hg, hnc, _, _, htake⟩
  · have : l = [] := List.eq_nil_of_length_eq_zero hn
    subst this
    exact ⟨none, 0, 0, rfl, Nat.le_refl _, fun h => absurd h (by simp), fun i hi => absurd hi (by simp)⟩
  · refine ⟨_, cap, g, rfl, hnc, fun _ => ⟨rfl, hb⟩, fun i hi => ⟨?_, frozen_of_row w g i cur _ hg⟩⟩
    rw [cell_of_row w g i cur _ _ hg, ← nv_at l i hi, ← htake, List.getElem?_take, if_pos (by omega)]
    simp
end
end Go.Proofs.YtjifionpblpfoaaDoor

/-
  What the document's own square and cube of layer 10 do. Conditions: a number below 2^16.
-/
namespace Go.Proofs.YtjifionpblpfoaaDoor
open Go.RowKit
open Pol (co Sm)

set_option maxHeartbeats 800000 in
set_option maxRecDepth 100000 in
theorem ref10_square (p : Nat) (w : World) (hp : p < 65536) :
    Calls Tryd.prog 54 #[.int .u64 (p : Int)] w (Tells (.int .u32 ((rtx 2 p 37 0 % 4294967296 : Nat) : Int)) w) := by
  have HAB := Lib.hid (fun (x : Nat) (ans : Bool) (W : World) (hx : x < 1099511627776) (ha : decide (p * 65536 ^ (2 * 2) < x ^ 2) = ans) => show Calls Tryd.prog 65 #[.slice (some ⟨W.heap.size, 0, none⟩) 2 2, .int .u64 (p : Int), .int .i64 2] (W.alloc (.cells (nv .u64 [x, x]).toArray 22)) (Tells (.bool ans) (W.alloc (.cells (nv .u64 [x, x]).toArray 22))) from by
    have h := ref10_above [x, x] p 2 W.heap.size 0 2 (W.alloc (.cells (nv .u64 [x, x]).toArray 22)) (fun i hi => by
      obtain ⟨b, o, e, hc⟩ := nrd_lit (k := .u64) (T := 22) W [x, x] i hi
      injection e with e
      injection e with e1 e2
      subst e1; subst e2
      exact hc) (fun f hf => by simp at hf; omega) (by simp) hp (by decide)
    rw [show [x, x].foldl (· * ·) 1 = x ^ 2 from by simp [Nat.pow_succ], ha] at h
    exact h)
  obtain ⟨R, hR⟩ : ∃ R, rtx 2 p 37 0 = R := ⟨_, rfl⟩
  have HRR := Lib.hid hR
  have hRb : R < 137438953472 := by rw [← hR]; have := rtx_lt 2 p 37 0; omega
  rw [hR]
  clear hR
  go_enter Tryd.func54, Tryd.ntmps54
  go_wp2
  go_loopg [3, 4] 37 (fun g s3 s4 wx => ∃ (r bit : Nat), s3 = .int .u64 (r : Int) ∧ s4 = .int .u64 (bit : Int) ∧ bit = 2 ^ g / 2 ∧ g ≤ 37 ∧ r + 2 ^ g ≤ 137438953472 ∧ rtx 2 p g r = R ∧ Ext w wx)
  case atStart => exact ⟨0, 68719476736, rfl, rfl, by decide, Nat.le_refl _, by decide, HRR.out, Ext.refl _⟩
  case round =>
    obtain ⟨r, bit, rfl, rfl, hbit, hg37, hrb, hrt, hx⟩ := hrel
    have HX := Lib.hid hx
    clear hx
    cases gk with
    | zero =>
      have hb0 : bit = 0 := by rw [hbit]
      subst hb0
      have hrr : r = R := hrt
      obtain ⟨y, hy⟩ : ∃ y, R % 4294967296 = y := ⟨_, rfl⟩
      have e1 : (R : Int) % 4294967296 = (y : Int) := by omega
      have e2 : IntKind.u32.wrap (y : Int) = (y : Int) := by rw [IntKind.wrap_u32]; omega
      have HY := Lib.hid hy
      clear hbit hrt hy
      subst hrr
      go_wp2
      go_ret
      exact ⟨ret_int (by rw [HY.out]), HX.out⟩
    | succ g =>
      have hbg : bit = 2 ^ g := by rw [hbit, Nat.pow_succ, Nat.mul_div_cancel _ (by decide)]
      have hbp : 0 < bit := by rw [hbg]; exact Nat.two_pow_pos g
      have d1 : decide ((0 : Int) < (bit : Int)) = true := decide_eq_true (by omega)
      have d2 : decide (0 < bit) = true := decide_eq_true hbp
      rw [Nat.pow_succ, ← hbg] at hrb
      rw [rtx, ← hbg] at hrt
      obtain ⟨x, hxx⟩ : ∃ x, r + bit = x := ⟨_, rfl⟩
      rw [hxx] at hrt
      have e1 : (r : Int) + (bit : Int) = (x : Int) := by omega
      obtain ⟨b2, hb2⟩ : ∃ b2, bit / 2 = b2 := ⟨_, rfl⟩
      have e2 : (bit : Int) / 2 = (b2 : Int) := by omega
      have HB2 := Lib.hid (show b2 = 2 ^ g / 2 by rw [← hb2, hbg])
      have HBG := Lib.hid hbg
      have hxb : x < 1099511627776 := by omega
      have hx64 : x < 18446744073709551616 := by omega
      by_cases hab : p * 65536 ^ (2 * 2) < x ^ 2
      · have HA := Lib.hid (HAB.out x true wr hxb (decide_eq_true hab))
        rw [if_pos hab] at hrt
        have HRT := Lib.hid hrt
        have HFIT := Lib.hid (show r + 2 ^ g ≤ 137438953472 by rw [← hbg]; omega)
        clear hab hrt hbit hbg hxx hb2
        go_wp2_with fail
        refine HA.out.mono ?_
        rintro e w1 ⟨rfl, hx1⟩
        have HX1 := Lib.hid ((HX.out.alloc _).trans hx1)
        clear hx1
        go_wp2
        go_roundg g
        case measure => omega
        case rel => exact ⟨r, b2, rfl, by go_num, HB2.out, by omega, HFIT.out, HRT.out, HX1.out⟩
      · have HA := Lib.hid (HAB.out x false wr hxb (decide_eq_false hab))
        rw [if_neg hab] at hrt
        have HRT := Lib.hid hrt
        have HFIT := Lib.hid (show x + 2 ^ g ≤ 137438953472 by rw [← hbg]; omega)
        clear hab hrt hbit hbg hxx hb2
        go_wp2_with fail
        refine HA.out.mono ?_
        rintro e w1 ⟨rfl, hx1⟩
        have HX1 := Lib.hid ((HX.out.alloc _).trans hx1)
        clear hx1
        go_wp2
        go_roundg g
        case measure => omega
        case rel => exact ⟨x, b2, rfl, by go_num, HB2.out, by omega, HFIT.out, HRT.out, HX1.out⟩

set_option maxHeartbeats 800000 in
set_option maxRecDepth 100000 in
theorem ref10_cube (p : Nat) (w : World) (hp : p < 65536) :
    Calls Tryd.prog 55 #[.int .u64 (p : Int)] w (Tells (.int .u32 ((rtx 3 p 37 0 % 4294967296 : Nat) : Int)) w) := by
  have HAB := Lib.hid (fun (x : Nat) (ans : Bool) (W : World) (hx : x < 1099511627776) (ha : decide (p * 65536 ^ (2 * 3) < x ^ 3) = ans) => show Calls Tryd.prog 65 #[.slice (some ⟨W.heap.size, 0, none⟩) 3 3, .int .u64 (p : Int), .int .i64 3] (W.alloc (.cells (nv .u64 [x, x, x]).toArray 22)) (Tells (.bool ans) (W.alloc (.cells (nv .u64 [x, x, x]).toArray 22))) from by
    have h := ref10_above [x, x, x] p 3 W.heap.size 0 3 (W.alloc (.cells (nv .u64 [x, x, x]).toArray 22)) (fun i hi => by
      obtain ⟨b, o, e, hc⟩ := nrd_lit (k := .u64) (T := 22) W [x, x, x] i hi
      injection e with e
      injection e with e1 e2
      subst e1; subst e2
      exact hc) (fun f hf => by simp at hf; omega) (by simp) hp (by decide)
    rw [show [x, x, x].foldl (· * ·) 1 = x ^ 3 from by simp [Nat.pow_succ], ha] at h
    exact h)
  obtain ⟨R, hR⟩ : ∃ R, rtx 3 p 37 0 = R := ⟨_, rfl⟩
  have HRR := Lib.hid hR
  have hRb : R < 137438953472 := by rw [← hR]; have := rtx_lt 3 p 37 0; omega
  rw [hR]
  clear hR
  go_enter Tryd.func55, Tryd.ntmps55
  go_wp2
  go_loopg [3, 4] 37 (fun g s3 s4 wx => ∃ (r bit : Nat), s3 = .int .u64 (r : Int) ∧ s4 = .int .u64 (bit : Int) ∧ bit = 2 ^ g / 2 ∧ g ≤ 37 ∧ r + 2 ^ g ≤ 137438953472 ∧ rtx 3 p g r = R ∧ Ext w wx)
  case atStart => exact ⟨0, 68719476736, rfl, rfl, by decide, Nat.le_refl _, by decide, HRR.out, Ext.refl _⟩
  case round =>
    obtain ⟨r, bit, rfl, rfl, hbit, hg37, hrb, hrt, hx⟩ := hrel
    have HX := Lib.hid hx
    clear hx
    cases gk with
    | zero =>
      have hb0 : bit = 0 := by rw [hbit]
      subst hb0
      have hrr : r = R := hrt
      obtain ⟨y, hy⟩ : ∃ y, R % 4294967296 = y := ⟨_, rfl⟩
      have e1 : (R : Int) % 4294967296 = (y : Int) := by omega
      have e2 : IntKind.u32.wrap (y : Int) = (y : Int) := by rw [IntKind.wrap_u32]; omega
      have HY := Lib.hid hy
      clear hbit hrt hy
      subst hrr
      go_wp2
      go_ret
      exact ⟨ret_int (by rw [HY.out]), HX.out⟩
    | succ g =>
      have hbg : bit = 2 ^ g := by rw [hbit, Nat.pow_succ, Nat.mul_div_cancel _ (by decide)]
      have hbp : 0 < bit := by rw [hbg]; exact Nat.two_pow_pos g
      have d1 : decide ((0 : Int) < (bit : Int)) = true := decide_eq_true (by omega)
      have d2 : decide (0 < bit) = true := decide_eq_true hbp
      rw [Nat.pow_succ, ← hbg] at hrb
      rw [rtx, ← hbg] at hrt
      obtain ⟨x, hxx⟩ : ∃ x, r + bit = x := ⟨_, rfl⟩
      rw [hxx] at hrt
      have e1 : (r : Int) + (bit : Int) = (x : Int) := by omega
      obtain ⟨b2, hb2⟩ : ∃ b2, bit / 2 = b2 := ⟨_, rfl⟩
      have e2 : (bit : Int) / 2 = (b2 : Int) := by omega
      have HB2 := Lib.hid (show b2 = 2 ^ g / 2 by rw [← hb2, hbg])
      have HBG := Lib.hid hbg
      have hxb : x < 1099511627776 := by omega
      have hx64 : x < 18446744073709551616 := by omega
      by_cases hab : p * 65536 ^ (2 * 3) < x ^ 3
      · have HA := Lib.hid (HAB.out x true wr hxb (decide_eq_true hab))
        rw [if_pos hab] at hrt
        have HRT := Lib.hid hrt
        have HFIT := Lib.hid (show r + 2 ^ g ≤ 137438953472 by rw [← hbg]; omega)
        clear hab hrt hbit hbg hxx hb2
        go_wp2_with fail
        refine HA.out.mono ?_
        rintro e w1 ⟨rfl, hx1⟩
        have HX1 := Lib.hid ((HX.out.alloc _).trans hx1)
        clear hx1
        go_wp2
        go_roundg g
        case measure => omega
        case rel => exact ⟨r, b2, rfl, by go_num, HB2.out, by omega, HFIT.out, HRT.out, HX1.out⟩
      · have HA := Lib.hid (HAB.out x false wr hxb (decide_eq_false hab))
        rw [if_neg hab] at hrt
        have HRT := Lib.hid hrt
        have HFIT := Lib.hid (show x + 2 ^ g ≤ 137438953472 by rw [← hbg]; omega)
        clear hab hrt hbit hbg hxx hb2
        go_wp2_with fail
        refine HA.out.mono ?_
        rintro e w1 ⟨rfl, hx1⟩
        have HX1 := Lib.hid ((HX.out.alloc _).trans hx1)
        clear hx1
        go_wp2
        go_roundg g
        case measure => omega
        case rel => exact ⟨x, b2, rfl, by go_num, HB2.out, by omega, HFIT.out, HRT.out, HX1.out⟩
end Go.Proofs.YtjifionpblpfoaaDoor

/-
  What the document's own primes of layer 10 does, of sixty-four. Conditions: none.
-/
namespace Go.Proofs.YtjifionpblpfoaaDoor
open Go.RowKit
open Pol (co Sm)

theorem prs_pos : ∀ n, ∀ q ∈ prs n, 2 ≤ q ∧ q < n
  | 0, q, h => by cases h
  | n + 1, q, h => by
    rw [prs] at h
    split at h
    · rename_i hc
      rcases List.mem_append.1 h with h | h
      · have := prs_pos n q h; omega
      · have : q = n := by simpa using h
        omega
    · have := prs_pos n q h; omega
theorem all_take (l : List Nat) (f : Nat → Bool) (i : Nat) (h : i < l.length) : (l.take (i + 1)).all f = ((l.take i).all f && f (co l i)) := by
  rw [take_snoc l i h, List.all_append]
  simp

set_option maxHeartbeats 800000 in
set_option maxRecDepth 100000 in
theorem ref10_primes (w : World) : Calls Tryd.prog 53 #[.int .i64 64] w (GivesN .u64 22 PR w) := by
  unfold GivesN
  have HPR := Lib.hid prs_last
  have HFEW := Lib.hid prs_few
  have HPOS := Lib.hid prs_pos
  generalize PR = V at *
  have HV64 := Lib.hid (show (prs 312).length = 64 from by rw [prs_last]; rfl)
  go_enter Tryd.func53, Tryd.ntmps53
  go_wp2
  go_loopg [3, 4] 310 (fun g s3 s4 wx => ∃ n : Nat, n + g = 312 ∧ 2 ≤ n ∧ s4 = .int .u64 (n : Int) ∧ NMine 22 .u64 wx w.heap.size s3 (prs n) ∧ Ext w wx)
  case atStart => exact ⟨2, by decide, by decide, rfl, NMine.nil _ _, Ext.refl _⟩
  case round =>
    obtain ⟨n, hng, hn2, rfl, hm, hx⟩ := hrel
    have HM := Lib.hid hm
    have HX := Lib.hid hx
    obtain ⟨B3, c3, rfl, hc3, hr3⟩ := hm.slice
    have HR3 := Lib.hid hr3
    have hs := hx.size
    clear hm hx hr3
    cases gk with
    | zero =>
      obtain rfl : n = 312 := by omega
      have hl := HV64.out
      obtain ⟨LL, hLL⟩ : ∃ LL, (prs 312).length = LL := ⟨_, rfl⟩
      rw [hLL] at hl HM ⊢
      obtain rfl : LL = 64 := hl
      rw [HPR.out] at HM
      clear hLL
      go_wp2
      go_ret
      exact ⟨_, rfl, HM.out, HX.out⟩
    | succ g =>
      have hn : n < 312 := by omega
      have hlt := HFEW.out n hn
      have HPN := Lib.hid (HPOS.out n)
      have HST := Lib.hid (show prs (n + 1) = if (prs n).all (fun q => n % q != 0) then prs n ++ [n] else prs n from by
        rw [prs]
        by_cases h : ((prs n).all fun q => n % q != 0) = true
        · rw [if_pos ⟨hn2, h⟩, if_pos h]
        · rw [if_neg (fun h' => h h'.2), if_neg h])
      obtain ⟨P, hP⟩ : ∃ P, prs n = P := ⟨_, rfl⟩
      rw [hP] at HM HR3 hlt HPN HST hc3 ⊢
      obtain ⟨L, hL⟩ : ∃ L, P.length = L := ⟨_, rfl⟩
      have HL := Lib.hid hL
      rw [hL] at HM hlt hc3 ⊢
      have d1 : decide ((L : Int) < 64) = true := decide_eq_true (by omega)
      have HNG := Lib.hid hng
      clear hP hL hng
      go_wp2
      obtain ⟨wq, hwq⟩ : ∃ q, q = wr := ⟨_, rfl⟩
      subst hwq
      go_loopg [5, 15] L (fun g s5 s15 wx => ∃ i : Nat, i + g = L ∧ s15 = .int .i64 (i : Int) ∧ s5 = .bool ((P.take i).all (fun q => n % q != 0)) ∧ wq = wx)
      case atStart => exact ⟨0, by omega, rfl, rfl, rfl⟩
      case round =>
        obtain ⟨i, hig, rfl, rfl, rfl⟩ := hrel
        cases gk with
        | zero =>
          obtain rfl : i = L := by omega
          have hT : P.take i = P := by rw [← HL.out, List.take_length]
          rw [hT]
          by_cases hall : (P.all fun q => n % q != 0) = true
          · have HS2 := Lib.hid (HST.out.trans (if_pos hall))
            rw [hall]
            clear hig hall hT
            go_wp2_with (at_builtin; refine wpList_append_nums nt64 rfl (.tmp 30) (.tmp 32) rfl w.heap.size (.slice B3 i c3) P [n] rfl (HM.out.ext ((Ext.refl _).alloc _)) wq.heap.size 0 1 1 rfl rfl one_num (by rw [HL.out]; simp; omega) (by simp; omega) ?_; intro v7 w7 hown7 hg7 hat7; rw [← HS2.out] at hown7; have HX7 := Lib.hid ((HX.out.alloc (.cells #[.int .u64 (n : Int)] 22)).more hg7 (fun q hq => (HM.out.block q hq).1)); have HM7 := Lib.hid hown7; clear hown7 hg7 hat7)
            go_roundg g
            case measure => omega
            case rel => exact ⟨n + 1, by have := HNG.out; omega, by omega, by go_num, HM7.out, HX7.out⟩
          · have hall' : (P.all fun q => n % q != 0) = false := by simpa using hall
            have HS2 := Lib.hid (HST.out.trans (if_neg hall))
            rw [hall']
            clear hig hall hT hall'
            go_wp2
            go_roundg g
            case measure => omega
            case rel => exact ⟨n + 1, by have := HNG.out; omega, by omega, by go_num, by rw [HS2.out]; exact HM.out, HX.out⟩
        | succ g2 =>
          have hi : i < L := by omega
          have hiI : (i : Int) < (L : Int) := by omega
          obtain ⟨b, o, rfl, hc⟩ := HR3.out i (by rw [HL.out]; exact hi)
          have HAT := Lib.hid (all_take P (fun q => n % q != 0) i (by rw [HL.out]; exact hi))
          have hq := HPN.out (co P i) (by unfold co; rw [List.getElem?_eq_getElem (by rw [HL.out]; exact hi)]; exact List.getElem_mem _)
          obtain ⟨q, hqe⟩ : ∃ q, co P i = q := ⟨_, rfl⟩
          rw [hqe] at hc hq HAT
          obtain ⟨r, hr⟩ : ∃ r, n % q = r := ⟨_, rfl⟩
          have e1 : (n : Int) % (q : Int) = (r : Int) := by rw [← hr]; omega
          have hqI : (q : Int) ≠ 0 := by omega
          clear hqe
          cases hb : (P.take i).all (fun q => n % q != 0) with
          | false =>
            have HB := Lib.hid (show (P.take (i + 1)).all (fun q => n % q != 0) = false from by rw [HAT.out, hb]; rfl)
            clear hb hr
            go_wp2
            go_roundg g2
            case measure => omega
            case rel => exact ⟨i + 1, by omega, by go_num, by rw [HB.out], rfl⟩
          | true =>
            have HB := Lib.hid (show (P.take (i + 1)).all (fun q => n % q != 0) = (r != 0) from by rw [HAT.out, hb, hr]; rfl)
            clear hb hr
            by_cases hr0 : r = 0
            · subst hr0
              go_wp2
              go_roundg g2
              case measure => omega
              case rel => exact ⟨i + 1, by omega, by go_num, by rw [HB.out]; rfl, rfl⟩
            · have d2 : ((r : Int) != 0) = true := by simp; omega
              have d3 : (r != 0) = true := by simp; omega
              have d4 : decide (r = 0) = false := decide_eq_false hr0
              have d5 : ((r : Int) == 0) = false := by simp; omega
              go_wp2
              go_roundg g2
              case measure => omega
              case rel => exact ⟨i + 1, by omega, by go_num, by rw [HB.out, d3], rfl⟩
end Go.Proofs.YtjifionpblpfoaaDoor

/-
  What the document's own turn of layer 10 does. Conditions: a word, by less than 32.
-/
namespace Go.Proofs.YtjifionpblpfoaaDoor
open Go.RowKit
open Pol (co Sm)

set_option maxHeartbeats 400000 in
theorem ref10_turn (x n : Nat) (w : World) (hx : x < 4294967296) (hn : n < 32) :
    Calls Tryd.prog 56 #[.int .u32 (x : Int), .int .u64 (n : Int)] w (fun e w' => e = .returned (.int .u32 ((tw x n : Nat) : Int)) ∧ w = w') := by
  obtain ⟨m, hm⟩ : ∃ m, 32 - n = m := ⟨_, rfl⟩
  obtain ⟨q, hq⟩ : ∃ q, x / 2 ^ n = q := ⟨_, rfl⟩
  obtain ⟨y, hy⟩ : ∃ y, x * 2 ^ m % 4294967296 = y := ⟨_, rfl⟩
  obtain ⟨z, hz⟩ : ∃ z, tw x n = z := ⟨_, rfl⟩
  have e1 : IntKind.u64.wrap (32 - (n : Int)) = (m : Int) := by rw [IntKind.wrap_u64]; omega
  have e1' : 32 - (n : Int) = (m : Int) := by omega
  have e2 : (x : Int) / 2 ^ n = (q : Int) := by rw [← hq]; simp
  have e3 : IntKind.u32.wrap ((x : Int) * 2 ^ m) = (y : Int) := by
    rw [IntKind.wrap_u32, ← hy]
    simp
  have hqb : q < 4294967296 := by rw [← hq]; exact Nat.lt_of_le_of_lt (Nat.div_le_self _ _) hx
  have hyb : y < 4294967296 := by rw [← hy]; exact Nat.mod_lt _ (by decide)
  have e4 : bits .or .u32 (q : Int) (y : Int) = (z : Int) := by
    rw [u32_or_nat q y hqb hyb, ← hz]
    unfold tw
    rw [hm, hq, hy]
  rw [hz]
  clear hm hq hy hz
  go_enter Tryd.func56, Tryd.ntmps56
  go_wp2
  go_ret
  exact ⟨rfl, rfl⟩
end Go.Proofs.YtjifionpblpfoaaDoor

/-
  What a round of the document's own digest reckons. Conditions: none.
-/
namespace Go.Proofs.YtjifionpblpfoaaDoor
open Go.RowKit
open Pol (co Sm)

theorem or24 (x y : Nat) (hy : y < 16777216) : x * 16777216 ||| y = x * 16777216 + y := by
  have h := Nat.two_pow_add_eq_or_of_lt (i := 24) (b := y) hy x
  rw [Nat.mul_comm x, ← show (2 : Nat) ^ 24 = 16777216 from rfl, ← h]
theorem or_word (x0 x1 x2 x3 : Nat) (h1 : x1 < 256) (h2 : x2 < 256) (h3 : x3 < 256) :
    x0 * 16777216 ||| x1 * 65536 = x0 * 16777216 + x1 * 65536 ∧ (x0 * 16777216 + x1 * 65536) ||| x2 * 256 = x0 * 16777216 + x1 * 65536 + x2 * 256 ∧ (x0 * 16777216 + x1 * 65536 + x2 * 256) ||| x3 = x0 * 16777216 + x1 * 65536 + x2 * 256 + x3 := by
  refine ⟨or24 x0 _ (by omega), ?_, ?_⟩
  · have h := Nat.two_pow_add_eq_or_of_lt (i := 16) (b := x2 * 256) (by omega) (x0 * 256 + x1)
    rw [show x0 * 16777216 + x1 * 65536 = 2 ^ 16 * (x0 * 256 + x1) by omega, ← h]
  · have h := Nat.two_pow_add_eq_or_of_lt (i := 8) (b := x3) (by omega) (x0 * 65536 + x1 * 256 + x2)
    rw [show x0 * 16777216 + x1 * 65536 + x2 * 256 = 2 ^ 8 * (x0 * 65536 + x1 * 256 + x2) by omega, ← h]
theorem NRd.fix {k : IntKind} {w : World} {b o : Nat} {l : List Nat} (h : NRd k w (some ⟨b, o, none⟩) l) (j : Nat) (hj : j < l.length) : w.cell? ⟨b, o + j, none⟩ = some (.int k ((co l j : Nat) : Int)) := by
  obtain ⟨b', o', e, hc⟩ := h j hj
  injection e with e
  injection e with e1 e2
  subst e1; subst e2
  exact hc
def AfterS (u w : World) : Prop := Ext u w
theorem word_lt {t : List Nat} (h : Sm t) (j : Nat) : word t j < 4294967296 := by
  have h0 := h j
  have h1 := h (j + 1)
  have h2 := h (j + 2)
  have h3 := h (j + 3)
  unfold word
  omega
set_option maxHeartbeats 1600000 in
/-- What a round reckons, all at once. -/
theorem round_prep {P : Prop} (Kv WL G S : List Nat) (i bs os bk ok bw ow : Nat) (wr : World) (hKW : W32 Kv) (hWW : W32 WL) (hSW : W32 S) (hSE : rds Kv WL G i = S)
    (hSC : ∀ W, AfterS wr W → ∀ j, j < 8 → W.cell? ⟨bs, os + j, none⟩ = some (.int .u32 ((co S j : Nat) : Int))) (hck : wr.cell? ⟨bk, ok + i, none⟩ = some (.int .u32 ((co Kv i : Nat) : Int))) (hcw : wr.cell? ⟨bw, ow + i, none⟩ = some (.int .u32 ((co WL i : Nat) : Int)))
    (h : ∀ (kk ww s0 s1 s2 s3 s4 s5 s6 s7 t6 t11 t25 t2 t13 t22 e1 e2 ne c1x c2x c3x d1x d2x m1x m2x m3x m4x m5x o1 o2 o3 o4 w2 n0 n4 : Nat), (Hid (∀ W, AfterS wr W → W.cell? ⟨bs, os, none⟩ = some (.int .u32 (s0 : Int)))) → (Hid (∀ W, AfterS wr W → W.cell? ⟨bs, os + 1, none⟩ = some (.int .u32 (s1 : Int)))) → (Hid (∀ W, AfterS wr W → W.cell? ⟨bs, os + 2, none⟩ = some (.int .u32 (s2 : Int)))) → (Hid (∀ W, AfterS wr W → W.cell? ⟨bs, os + 3, none⟩ = some (.int .u32 (s3 : Int)))) → (Hid (∀ W, AfterS wr W → W.cell? ⟨bs, os + 4, none⟩ = some (.int .u32 (s4 : Int)))) → (Hid (∀ W, AfterS wr W → W.cell? ⟨bs, os + 5, none⟩ = some (.int .u32 (s5 : Int)))) → (Hid (∀ W, AfterS wr W → W.cell? ⟨bs, os + 6, none⟩ = some (.int .u32 (s6 : Int)))) → (wr.cell? ⟨bs, os, none⟩ = some (.int .u32 (s0 : Int))) → (wr.cell? ⟨bs, os + 4, none⟩ = some (.int .u32 (s4 : Int))) → (wr.cell? ⟨bs, os + 5, none⟩ = some (.int .u32 (s5 : Int))) → (wr.cell? ⟨bs, os + 6, none⟩ = some (.int .u32 (s6 : Int))) → (wr.cell? ⟨bs, os + 7, none⟩ = some (.int .u32 (s7 : Int))) → (wr.cell? ⟨bk, ok + i, none⟩ = some (.int .u32 (kk : Int))) → (wr.cell? ⟨bw, ow + i, none⟩ = some (.int .u32 (ww : Int))) → (Hid (∀ W, Calls Tryd.prog 56 #[.int .u32 (s4 : Int), .int .u64 6] W (fun e w' => e = .returned (.int .u32 (t6 : Int)) ∧ W = w'))) → (Hid (∀ W, Calls Tryd.prog 56 #[.int .u32 (s4 : Int), .int .u64 11] W (fun e w' => e = .returned (.int .u32 (t11 : Int)) ∧ W = w'))) → (Hid (∀ W, Calls Tryd.prog 56 #[.int .u32 (s4 : Int), .int .u64 25] W (fun e w' => e = .returned (.int .u32 (t25 : Int)) ∧ W = w'))) → (Hid (∀ W, Calls Tryd.prog 56 #[.int .u32 (s0 : Int), .int .u64 2] W (fun e w' => e = .returned (.int .u32 (t2 : Int)) ∧ W = w'))) → (Hid (∀ W, Calls Tryd.prog 56 #[.int .u32 (s0 : Int), .int .u64 13] W (fun e w' => e = .returned (.int .u32 (t13 : Int)) ∧ W = w'))) → (Hid (∀ W, Calls Tryd.prog 56 #[.int .u32 (s0 : Int), .int .u64 22] W (fun e w' => e = .returned (.int .u32 (t22 : Int)) ∧ W = w'))) → (bits .xor .u32 (t6 : Int) (t11 : Int) = (e1 : Int)) → (bits .xor .u32 (e1 : Int) (t25 : Int) = (e2 : Int)) → (bits .and .u32 (s4 : Int) (s5 : Int) = (c1x : Int)) → (bits .and .u32 (ne : Int) (s6 : Int) = (c2x : Int)) → (bits .xor .u32 (c1x : Int) (c2x : Int) = (c3x : Int)) → (bits .xor .u32 (t2 : Int) (t13 : Int) = (d1x : Int)) → (bits .xor .u32 (d1x : Int) (t22 : Int) = (d2x : Int)) → (bits .and .u32 (s0 : Int) (s1 : Int) = (m1x : Int)) → (bits .and .u32 (s0 : Int) (s2 : Int) = (m2x : Int)) → (bits .xor .u32 (m1x : Int) (m2x : Int) = (m3x : Int)) → (bits .and .u32 (s1 : Int) (s2 : Int) = (m4x : Int)) → (bits .xor .u32 (m3x : Int) (m4x : Int) = (m5x : Int)) → (IntKind.u32.wrap (4294967295 - (s4 : Int)) = (ne : Int)) → (IntKind.u32.wrap ((s7 : Int) + (e2 : Int)) = (o1 : Int)) → (IntKind.u32.wrap ((o1 : Int) + (c3x : Int)) = (o2 : Int)) → (IntKind.u32.wrap ((o2 : Int) + (kk : Int)) = (o3 : Int)) → (IntKind.u32.wrap ((o3 : Int) + (ww : Int)) = (o4 : Int)) → (IntKind.u32.wrap ((d2x : Int) + (m5x : Int)) = (w2 : Int)) → (IntKind.u32.wrap ((o4 : Int) + (w2 : Int)) = (n0 : Int)) → (IntKind.u32.wrap ((s3 : Int) + (o4 : Int)) = (n4 : Int)) → (Hid (Unit → rds Kv WL G (i + 1) = [n0, s0, s1, s2, n4, s4, s5, s6])) → P) : P := by
  have hRN : rds Kv WL G (i + 1) = rnd (co Kv i) (co WL i) S := by rw [rds, hSE]
  have hk32 := hKW.at i
  have hw32 := hWW.at i
  have hb0 := hSW.at 0
  have hb1 := hSW.at 1
  have hb2 := hSW.at 2
  have hb3 := hSW.at 3
  have hb4 := hSW.at 4
  have hb5 := hSW.at 5
  have hb6 := hSW.at 6
  have hb7 := hSW.at 7
  have HON := Lib.hid (fun (_ : Unit) => (show one (co Kv i) (co WL i) S = (co S 7 + (tw (co S 4) 6 ^^^ tw (co S 4) 11 ^^^ tw (co S 4) 25) + ((co S 4 &&& co S 5) ^^^ ((4294967295 - co S 4) &&& co S 6)) + co Kv i + co WL i) % 4294967296 from rfl))
  have HTW := Lib.hid (fun (_ : Unit) => (show two S = ((tw (co S 0) 2 ^^^ tw (co S 0) 13 ^^^ tw (co S 0) 22) + ((co S 0 &&& co S 1) ^^^ (co S 0 &&& co S 2) ^^^ (co S 1 &&& co S 2))) % 4294967296 from rfl))
  have HRD := Lib.hid (fun (_ : Unit) => (show rnd (co Kv i) (co WL i) S = [(one (co Kv i) (co WL i) S + two S) % 4294967296, co S 0, co S 1, co S 2, (co S 3 + one (co Kv i) (co WL i) S) % 4294967296, co S 4, co S 5, co S 6] from rfl))
  obtain ⟨kk, hkk⟩ : ∃ q, co Kv i = q := ⟨_, rfl⟩
  obtain ⟨ww, hww⟩ : ∃ q, co WL i = q := ⟨_, rfl⟩
  rw [hkk] at hck hk32 HON HRD hRN
  rw [hww] at hcw hw32 HON HRD hRN
  obtain ⟨s0, hs0⟩ : ∃ q, co S 0 = q := ⟨_, rfl⟩
  rw [hs0] at hb0 HTW HRD
  obtain ⟨s1, hs1⟩ : ∃ q, co S 1 = q := ⟨_, rfl⟩
  rw [hs1] at hb1 HTW HRD
  obtain ⟨s2, hs2⟩ : ∃ q, co S 2 = q := ⟨_, rfl⟩
  rw [hs2] at hb2 HTW HRD
  obtain ⟨s3, hs3⟩ : ∃ q, co S 3 = q := ⟨_, rfl⟩
  rw [hs3] at hb3 HRD
  obtain ⟨s4, hs4⟩ : ∃ q, co S 4 = q := ⟨_, rfl⟩
  rw [hs4] at hb4 HON HRD
  obtain ⟨s5, hs5⟩ : ∃ q, co S 5 = q := ⟨_, rfl⟩
  rw [hs5] at hb5 HON HRD
  obtain ⟨s6, hs6⟩ : ∃ q, co S 6 = q := ⟨_, rfl⟩
  rw [hs6] at hb6 HON HRD
  obtain ⟨s7, hs7⟩ : ∃ q, co S 7 = q := ⟨_, rfl⟩
  rw [hs7] at hb7 HON
  have HC0 := Lib.hid (show ∀ W, AfterS wr W → W.cell? ⟨bs, os, none⟩ = some (.int .u32 (s0 : Int)) from fun W hW => by have h := hSC W hW 0 (by decide); rw [hs0] at h; exact h)
  have HC1 := Lib.hid (show ∀ W, AfterS wr W → W.cell? ⟨bs, os + 1, none⟩ = some (.int .u32 (s1 : Int)) from fun W hW => by have h := hSC W hW 1 (by decide); rw [hs1] at h; exact h)
  have HC2 := Lib.hid (show ∀ W, AfterS wr W → W.cell? ⟨bs, os + 2, none⟩ = some (.int .u32 (s2 : Int)) from fun W hW => by have h := hSC W hW 2 (by decide); rw [hs2] at h; exact h)
  have HC3 := Lib.hid (show ∀ W, AfterS wr W → W.cell? ⟨bs, os + 3, none⟩ = some (.int .u32 (s3 : Int)) from fun W hW => by have h := hSC W hW 3 (by decide); rw [hs3] at h; exact h)
  have HC4 := Lib.hid (show ∀ W, AfterS wr W → W.cell? ⟨bs, os + 4, none⟩ = some (.int .u32 (s4 : Int)) from fun W hW => by have h := hSC W hW 4 (by decide); rw [hs4] at h; exact h)
  have HC5 := Lib.hid (show ∀ W, AfterS wr W → W.cell? ⟨bs, os + 5, none⟩ = some (.int .u32 (s5 : Int)) from fun W hW => by have h := hSC W hW 5 (by decide); rw [hs5] at h; exact h)
  have HC6 := Lib.hid (show ∀ W, AfterS wr W → W.cell? ⟨bs, os + 6, none⟩ = some (.int .u32 (s6 : Int)) from fun W hW => by have h := hSC W hW 6 (by decide); rw [hs6] at h; exact h)
  have HC7 := Lib.hid (show ∀ W, AfterS wr W → W.cell? ⟨bs, os + 7, none⟩ = some (.int .u32 (s7 : Int)) from fun W hW => by have h := hSC W hW 7 (by decide); rw [hs7] at h; exact h)
  have HT6 := Lib.hid (fun W => show Calls Tryd.prog 56 #[.int .u32 (s4 : Int), .int .u64 6] W (fun e w' => e = .returned (.int .u32 ((tw s4 6 : Nat) : Int)) ∧ W = w') from ref10_turn s4 6 W hb4 (by decide))
  have lt6 := tw_lt (n := 6) hb4
  obtain ⟨t6, ht6⟩ : ∃ q, tw s4 6 = q := ⟨_, rfl⟩
  rw [ht6] at HT6 lt6 HON
  have HT11 := Lib.hid (fun W => show Calls Tryd.prog 56 #[.int .u32 (s4 : Int), .int .u64 11] W (fun e w' => e = .returned (.int .u32 ((tw s4 11 : Nat) : Int)) ∧ W = w') from ref10_turn s4 11 W hb4 (by decide))
  have lt11 := tw_lt (n := 11) hb4
  obtain ⟨t11, ht11⟩ : ∃ q, tw s4 11 = q := ⟨_, rfl⟩
  rw [ht11] at HT11 lt11 HON
  have HT25 := Lib.hid (fun W => show Calls Tryd.prog 56 #[.int .u32 (s4 : Int), .int .u64 25] W (fun e w' => e = .returned (.int .u32 ((tw s4 25 : Nat) : Int)) ∧ W = w') from ref10_turn s4 25 W hb4 (by decide))
  have lt25 := tw_lt (n := 25) hb4
  obtain ⟨t25, ht25⟩ : ∃ q, tw s4 25 = q := ⟨_, rfl⟩
  rw [ht25] at HT25 lt25 HON
  have HT2 := Lib.hid (fun W => show Calls Tryd.prog 56 #[.int .u32 (s0 : Int), .int .u64 2] W (fun e w' => e = .returned (.int .u32 ((tw s0 2 : Nat) : Int)) ∧ W = w') from ref10_turn s0 2 W hb0 (by decide))
  have lt2 := tw_lt (n := 2) hb0
  obtain ⟨t2, ht2⟩ : ∃ q, tw s0 2 = q := ⟨_, rfl⟩
  rw [ht2] at HT2 lt2 HTW
  have HT13 := Lib.hid (fun W => show Calls Tryd.prog 56 #[.int .u32 (s0 : Int), .int .u64 13] W (fun e w' => e = .returned (.int .u32 ((tw s0 13 : Nat) : Int)) ∧ W = w') from ref10_turn s0 13 W hb0 (by decide))
  have lt13 := tw_lt (n := 13) hb0
  obtain ⟨t13, ht13⟩ : ∃ q, tw s0 13 = q := ⟨_, rfl⟩
  rw [ht13] at HT13 lt13 HTW
  have HT22 := Lib.hid (fun W => show Calls Tryd.prog 56 #[.int .u32 (s0 : Int), .int .u64 22] W (fun e w' => e = .returned (.int .u32 ((tw s0 22 : Nat) : Int)) ∧ W = w') from ref10_turn s0 22 W hb0 (by decide))
  have lt22 := tw_lt (n := 22) hb0
  obtain ⟨t22, ht22⟩ : ∃ q, tw s0 22 = q := ⟨_, rfl⟩
  rw [ht22] at HT22 lt22 HTW
  obtain ⟨e1, he1⟩ : ∃ q, t6 ^^^ t11 = q := ⟨_, rfl⟩
  have le1 : e1 < 4294967296 := by rw [← he1]; exact Nat.xor_lt_two_pow (n := 32) lt6 lt11
  have qe1 : bits .xor .u32 (t6 : Int) (t11 : Int) = (e1 : Int) := by rw [← he1]; exact u32_xor_nat t6 t11 lt6 lt11
  rw [he1] at HON
  obtain ⟨e2, he2⟩ : ∃ q, e1 ^^^ t25 = q := ⟨_, rfl⟩
  have le2 : e2 < 4294967296 := by rw [← he2]; exact Nat.xor_lt_two_pow (n := 32) le1 lt25
  have qe2 : bits .xor .u32 (e1 : Int) (t25 : Int) = (e2 : Int) := by rw [← he2]; exact u32_xor_nat e1 t25 le1 lt25
  rw [he2] at HON
  obtain ⟨ne, hne⟩ : ∃ q, 4294967295 - s4 = q := ⟨_, rfl⟩
  have lne : ne < 4294967296 := by omega
  have qne : IntKind.u32.wrap (4294967295 - (s4 : Int)) = (ne : Int) := by rw [IntKind.wrap_u32]; omega
  rw [hne] at HON
  obtain ⟨c1x, hc1x⟩ : ∃ q, s4 &&& s5 = q := ⟨_, rfl⟩
  have lc1x : c1x < 4294967296 := by rw [← hc1x]; exact Nat.lt_of_le_of_lt Nat.and_le_left hb4
  have qc1x : bits .and .u32 (s4 : Int) (s5 : Int) = (c1x : Int) := by rw [← hc1x]; exact u32_and_nat s4 s5 hb4 hb5
  rw [hc1x] at HON
  obtain ⟨c2x, hc2x⟩ : ∃ q, ne &&& s6 = q := ⟨_, rfl⟩
  have lc2x : c2x < 4294967296 := by rw [← hc2x]; exact Nat.lt_of_le_of_lt Nat.and_le_left lne
  have qc2x : bits .and .u32 (ne : Int) (s6 : Int) = (c2x : Int) := by rw [← hc2x]; exact u32_and_nat ne s6 lne hb6
  rw [hc2x] at HON
  obtain ⟨c3x, hc3x⟩ : ∃ q, c1x ^^^ c2x = q := ⟨_, rfl⟩
  have lc3x : c3x < 4294967296 := by rw [← hc3x]; exact Nat.xor_lt_two_pow (n := 32) lc1x lc2x
  have qc3x : bits .xor .u32 (c1x : Int) (c2x : Int) = (c3x : Int) := by rw [← hc3x]; exact u32_xor_nat c1x c2x lc1x lc2x
  rw [hc3x] at HON
  obtain ⟨d1x, hd1x⟩ : ∃ q, t2 ^^^ t13 = q := ⟨_, rfl⟩
  have ld1x : d1x < 4294967296 := by rw [← hd1x]; exact Nat.xor_lt_two_pow (n := 32) lt2 lt13
  have qd1x : bits .xor .u32 (t2 : Int) (t13 : Int) = (d1x : Int) := by rw [← hd1x]; exact u32_xor_nat t2 t13 lt2 lt13
  rw [hd1x] at HTW
  obtain ⟨d2x, hd2x⟩ : ∃ q, d1x ^^^ t22 = q := ⟨_, rfl⟩
  have ld2x : d2x < 4294967296 := by rw [← hd2x]; exact Nat.xor_lt_two_pow (n := 32) ld1x lt22
  have qd2x : bits .xor .u32 (d1x : Int) (t22 : Int) = (d2x : Int) := by rw [← hd2x]; exact u32_xor_nat d1x t22 ld1x lt22
  rw [hd2x] at HTW
  obtain ⟨m1x, hm1x⟩ : ∃ q, s0 &&& s1 = q := ⟨_, rfl⟩
  have lm1x : m1x < 4294967296 := by rw [← hm1x]; exact Nat.lt_of_le_of_lt Nat.and_le_left hb0
  have qm1x : bits .and .u32 (s0 : Int) (s1 : Int) = (m1x : Int) := by rw [← hm1x]; exact u32_and_nat s0 s1 hb0 hb1
  rw [hm1x] at HTW
  obtain ⟨m2x, hm2x⟩ : ∃ q, s0 &&& s2 = q := ⟨_, rfl⟩
  have lm2x : m2x < 4294967296 := by rw [← hm2x]; exact Nat.lt_of_le_of_lt Nat.and_le_left hb0
  have qm2x : bits .and .u32 (s0 : Int) (s2 : Int) = (m2x : Int) := by rw [← hm2x]; exact u32_and_nat s0 s2 hb0 hb2
  rw [hm2x] at HTW
  obtain ⟨m3x, hm3x⟩ : ∃ q, m1x ^^^ m2x = q := ⟨_, rfl⟩
  have lm3x : m3x < 4294967296 := by rw [← hm3x]; exact Nat.xor_lt_two_pow (n := 32) lm1x lm2x
  have qm3x : bits .xor .u32 (m1x : Int) (m2x : Int) = (m3x : Int) := by rw [← hm3x]; exact u32_xor_nat m1x m2x lm1x lm2x
  rw [hm3x] at HTW
  obtain ⟨m4x, hm4x⟩ : ∃ q, s1 &&& s2 = q := ⟨_, rfl⟩
  have lm4x : m4x < 4294967296 := by rw [← hm4x]; exact Nat.lt_of_le_of_lt Nat.and_le_left hb1
  have qm4x : bits .and .u32 (s1 : Int) (s2 : Int) = (m4x : Int) := by rw [← hm4x]; exact u32_and_nat s1 s2 hb1 hb2
  rw [hm4x] at HTW
  obtain ⟨m5x, hm5x⟩ : ∃ q, m3x ^^^ m4x = q := ⟨_, rfl⟩
  have lm5x : m5x < 4294967296 := by rw [← hm5x]; exact Nat.xor_lt_two_pow (n := 32) lm3x lm4x
  have qm5x : bits .xor .u32 (m3x : Int) (m4x : Int) = (m5x : Int) := by rw [← hm5x]; exact u32_xor_nat m3x m4x lm3x lm4x
  rw [hm5x] at HTW
  obtain ⟨o1, ho1⟩ : ∃ q, (s7 + e2) % 4294967296 = q := ⟨_, rfl⟩
  have qo1 : IntKind.u32.wrap ((s7 : Int) + (e2 : Int)) = (o1 : Int) := by rw [IntKind.wrap_u32]; omega
  obtain ⟨o2, ho2⟩ : ∃ q, (o1 + c3x) % 4294967296 = q := ⟨_, rfl⟩
  have qo2 : IntKind.u32.wrap ((o1 : Int) + (c3x : Int)) = (o2 : Int) := by rw [IntKind.wrap_u32]; omega
  obtain ⟨o3, ho3⟩ : ∃ q, (o2 + kk) % 4294967296 = q := ⟨_, rfl⟩
  have qo3 : IntKind.u32.wrap ((o2 : Int) + (kk : Int)) = (o3 : Int) := by rw [IntKind.wrap_u32]; omega
  obtain ⟨o4, ho4⟩ : ∃ q, (o3 + ww) % 4294967296 = q := ⟨_, rfl⟩
  have qo4 : IntKind.u32.wrap ((o3 : Int) + (ww : Int)) = (o4 : Int) := by rw [IntKind.wrap_u32]; omega
  obtain ⟨w2, hw2⟩ : ∃ q, (d2x + m5x) % 4294967296 = q := ⟨_, rfl⟩
  have qw2 : IntKind.u32.wrap ((d2x : Int) + (m5x : Int)) = (w2 : Int) := by rw [IntKind.wrap_u32]; omega
  obtain ⟨n0, hn0⟩ : ∃ q, (o4 + w2) % 4294967296 = q := ⟨_, rfl⟩
  have qn0 : IntKind.u32.wrap ((o4 : Int) + (w2 : Int)) = (n0 : Int) := by rw [IntKind.wrap_u32]; omega
  obtain ⟨n4, hn4⟩ : ∃ q, (s3 + o4) % 4294967296 = q := ⟨_, rfl⟩
  have qn4 : IntKind.u32.wrap ((s3 : Int) + (o4 : Int)) = (n4 : Int) := by rw [IntKind.wrap_u32]; omega
  have HO4 := Lib.hid (fun (_ : Unit) => (show one kk ww S = o4 from by rw [(HON.out ())]; omega))
  have HW2 := Lib.hid (fun (_ : Unit) => (show two S = w2 from by rw [(HTW.out ()), hw2]))
  have HNW := Lib.hid (fun (_ : Unit) => (show rds Kv WL G (i + 1) = [n0, s0, s1, s2, n4, s4, s5, s6] from by rw [hRN, (HRD.out ()), (HO4.out ()), (HW2.out ()), hn0, hn4]))
  exact h kk ww s0 s1 s2 s3 s4 s5 s6 s7 t6 t11 t25 t2 t13 t22 e1 e2 ne c1x c2x c3x d1x d2x m1x m2x m3x m4x m5x o1 o2 o3 o4 w2 n0 n4 HC0 HC1 HC2 HC3 HC4 HC5 HC6 (HC0.out wr (Ext.refl wr)) (HC4.out wr (Ext.refl wr)) (HC5.out wr (Ext.refl wr)) (HC6.out wr (Ext.refl wr)) (HC7.out wr (Ext.refl wr)) hck hcw HT6 HT11 HT25 HT2 HT13 HT22 qe1 qe2 qc1x qc2x qc3x qd1x qd2x qm1x qm2x qm3x qm4x qm5x qne qo1 qo2 qo3 qo4 qw2 qn0 qn4 HNW
end Go.Proofs.YtjifionpblpfoaaDoor

/-
  A slice literal of eight numbers of 32 bits, in one step. Conditions: none.
-/
namespace Go.Proofs.YtjifionpblpfoaaDoor
open Go.RowKit

theorem fill8 (v0 v1 v2 v3 v4 v5 v6 v7 : Value) (h0 : v0.cells = #[v0]) (h1 : v1.cells = #[v1]) (h2 : v2.cells = #[v2]) (h3 : v3.cells = #[v3]) (h4 : v4.cells = #[v4]) (h5 : v5.cells = #[v5]) (h6 : v6.cells = #[v6]) (h7 : v7.cells = #[v7]) (z : Value) :
    Instr.fill (fun i => some (i * 1, 1)) ((Array.range (8 * 1)).map (z.cells[· % z.cells.size]!)) [(0, v0), (1, v1), (2, v2), (3, v3), (4, v4), (5, v5), (6, v6), (7, v7)] = some #[v0, v1, v2, v3, v4, v5, v6, v7] := by
  exact Great.fill_flat [v0, v1, v2, v3, v4, v5, v6, v7] _ (fun v hv => by
    simp only [List.mem_cons, List.not_mem_nil, or_false] at hv
    rcases hv with rfl | rfl | rfl | rfl | rfl | rfl | rfl | rfl <;> assumption) (by simp)
theorem run_build8 (n0 n1 n2 n3 n4 n5 n6 n7 : Nat) (w : World) :
    (Instr.buildSlice 93 8 #[(0, .int .u32 (n0 : Int)), (1, .int .u32 (n1 : Int)), (2, .int .u32 (n2 : Int)), (3, .int .u32 (n3 : Int)), (4, .int .u32 (n4 : Int)), (5, .int .u32 (n5 : Int)), (6, .int .u32 (n6 : Int)), (7, .int .u32 (n7 : Int))]).run Tryd.prog w =
      .ok (.slice (some ⟨w.heap.size, 0, none⟩) 8 8) (w.alloc (.cells #[.int .u32 (n0 : Int), .int .u32 (n1 : Int), .int .u32 (n2 : Int), .int .u32 (n3 : Int), .int .u32 (n4 : Int), .int .u32 (n5 : Int), .int .u32 (n6 : Int), .int .u32 (n7 : Int)] 72)) := by
  have hs : (Tryd.prog.info? 72).map (·.size) = some 1 := by kernel_rfl
  have hz : ((Tryd.prog.info? 72).bind (·.zero)).isSome = true := by kernel_rfl
  cases hie : Tryd.prog.info? 72 with
  | none => simp [hie] at hs
  | some ie =>
    simp only [hie, Option.map_some, Option.some.injEq, Option.bind_some] at hs hz
    obtain ⟨z, hzz⟩ := Option.isSome_iff_exists.1 hz
    refine run_buildSlice w 93 72 8 _ _ ie z Tryd.underlying93 hie hzz (by rw [hs]; decide) (by rw [hs]; decide) ?_
    rw [hs]
    exact fill8 _ _ _ _ _ _ _ _ rfl rfl rfl rfl rfl rfl rfl rfl z
theorem wpList_build8 {ops : Array Oper} {rest : List Oper} {o : Oper} {a : Act} {w : World} {Q : Exit → Act → World → Prop} (hg : o.guard = none) (x0 x1 x2 x3 x4 x5 x6 x7 : Operand)
    (ho : o.op = .buildSlice 93 8 #[(0, x0), (1, x1), (2, x2), (3, x3), (4, x4), (5, x5), (6, x6), (7, x7)]) (n0 n1 n2 n3 n4 n5 n6 n7 : Nat)
    (h0 : a.eval x0 = .int .u32 (n0 : Int)) (h1 : a.eval x1 = .int .u32 (n1 : Int)) (h2 : a.eval x2 = .int .u32 (n2 : Int)) (h3 : a.eval x3 = .int .u32 (n3 : Int)) (h4 : a.eval x4 = .int .u32 (n4 : Int)) (h5 : a.eval x5 = .int .u32 (n5 : Int)) (h6 : a.eval x6 = .int .u32 (n6 : Int)) (h7 : a.eval x7 = .int .u32 (n7 : Int))
    (h : wpList Tryd.prog ops Q rest (a.put o.dst (.slice (some ⟨w.heap.size, 0, none⟩) 8 8)) (w.alloc (.cells #[.int .u32 (n0 : Int), .int .u32 (n1 : Int), .int .u32 (n2 : Int), .int .u32 (n3 : Int), .int .u32 (n4 : Int), .int .u32 (n5 : Int), .int .u32 (n6 : Int), .int .u32 (n7 : Int)] 72))) : wpList Tryd.prog ops Q (o :: rest) a w :=
  wpList_plain hg fun K hK => by
    unfold Oper.wp execOp
    have e : (#[(0, x0), (1, x1), (2, x2), (3, x3), (4, x4), (5, x5), (6, x6), (7, x7)] : Array (Nat × Operand)).map (fun (i, x) => (i, a.eval x)) = #[(0, .int .u32 (n0 : Int)), (1, .int .u32 (n1 : Int)), (2, .int .u32 (n2 : Int)), (3, .int .u32 (n3 : Int)), (4, .int .u32 (n4 : Int)), (5, .int .u32 (n5 : Int)), (6, .int .u32 (n6 : Int)), (7, .int .u32 (n7 : Int))] := by
      simp [h0, h1, h2, h3, h4, h5, h6, h7]
    simp only [ho, Sem.run_bind, e, run_build8, Result.andThen_ok]
    exact hK _ _ h
end Go.Proofs.YtjifionpblpfoaaDoor

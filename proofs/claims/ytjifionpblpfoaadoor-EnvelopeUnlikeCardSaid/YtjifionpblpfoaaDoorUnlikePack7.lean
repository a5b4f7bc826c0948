/-
  Part 7 of the texts that the seat's proofs stand on; each part of it begins with its own sentence and conditions. Conditions: those that each theorem names.
-/
import Derived.Test.YtjifionpblpfoaaDoorUnlikePack6
import Derived.Laws.BytesString
import Derived.Deep.CutBlock
import Derived.Laws.CopyOwn
import Derived.Test.YtjifionpblpfoaaDoorProg
import Derived.StillTailTactics

/-
  What Of of layer 10 does. Conditions: no more than 2^16 bytes; the constants lie where they were laid.
-/
namespace Go.Proofs.YtjifionpblpfoaaDoor
open Go.RowKit
open Pol (co Sm)

theorem wl_congr {f f' : Nat → Nat} (h : ∀ i, i < 16 → f i = f' i) : ∀ n, wl f n = wl f' n
  | 0 => rfl
  | n + 1 => by
    rw [wl, wl, wl_congr h n]
    by_cases e : n < 16
    · rw [if_pos e, if_pos e, h n e]
    · rw [if_neg e, if_neg e]
theorem blk_congr {K H : List Nat} {f f' : Nat → Nat} (h : ∀ i, i < 16 → f i = f' i) : blk K f H = blk K f' H := by unfold blk; rw [wl_congr h 64]
/-- Blocks of one list, then of another. -/
theorem hsh_left {H K t u : List Nat} : ∀ n, 64 * n ≤ t.length → hsh H K (t ++ u) n = hsh H K t n
  | 0, _ => rfl
  | n + 1, h => by
    rw [hsh, hsh, hsh_left n (by omega)]
    refine blk_congr (fun i hi => ?_)
    have e : ∀ j, j < t.length → co (t ++ u) j = co t j := fun j hj => by unfold co; rw [List.getElem?_append_left hj]
    unfold word
    rw [e _ (by omega), e _ (by omega), e _ (by omega), e _ (by omega)]
theorem hsh_right {H K t u : List Nat} {m : Nat} (h : t.length = 64 * m) : ∀ n, hsh (hsh H K t m) K u n = hsh H K (t ++ u) (m + n)
  | 0 => by rw [hsh, Nat.add_zero, hsh_left m (by omega)]
  | n + 1 => by
    rw [hsh, hsh_right h n, ← Nat.add_assoc, hsh]
    refine blk_congr (fun i hi => ?_)
    have e : ∀ j k, j = t.length + k → co u k = co (t ++ u) j := fun j k hj => by
      subst hj
      unfold co
      rw [List.getElem?_append_right (by omega), Nat.add_sub_cancel_left]
    unfold word
    rw [e (64 * (m + n) + 4 * i) (64 * n + 4 * i) (by omega), e (64 * (m + n) + 4 * i + 1) (64 * n + 4 * i + 1) (by omega), e (64 * (m + n) + 4 * i + 2) (64 * n + 4 * i + 2) (by omega), e (64 * (m + n) + 4 * i + 3) (64 * n + 4 * i + 3) (by omega)]

/-- The block of an array of 32 bits' numbers behind a loop that writes another block. -/
theorem WBlk.grown {T : TypeId} {n : Nat} {w w' : World} {g d : Nat} {f : Nat → Nat} (h : WBlk T n w g f) (hg : w.grownBy w' (some d)) (hne : g ≠ d) : WBlk T n w' g f := h.keep hg (fun e => hne (by injection e))

set_option maxHeartbeats 3200000 in
set_option maxRecDepth 100000 in
theorem sh_of (b : List Nat) (A : Option Addr) (ca : Nat) (w : World) (hgl : GL w) (hr : Rd w A b) (hc : b.length ≤ ca) (hl : b.length ≤ 65536) :
    Calls Tryd.prog 19 #[.slice A b.length ca] w (DgS (sha b) w) := by
  obtain ⟨g0, hg0⟩ : ∃ g, w.heap.size = g := ⟨_, rfl⟩
  have HW0 := Lib.hid hg0
  obtain ⟨n, hn⟩ : ∃ n, b.length = n := ⟨_, rfl⟩
  have HN := Lib.hid hn
  have HR := Lib.hid hr
  have HGL := Lib.hid (fun W (h : Ext w W) => hgl.ext h)
  rw [hn] at hc hl ⊢
  obtain ⟨k, hk⟩ : ∃ k, 64 * (n / 64) = k := ⟨_, rfl⟩
  have hkn : k ≤ n := by omega
  have em : (n : Int).tmod 64 = ((n % 64 : Nat) : Int) := by rw [Int.tmod_eq_emod_of_nonneg (by omega)]; omega
  have em2 : (n : Int) - (n : Int) % 64 = (k : Int) := by omega
  have ew : wrap64 ((n : Int) - (n : Int) % 64) = (k : Int) := by unfold wrap64; omega
  have HK := Lib.hid hk
  have hT := (HGL.out w (Ext.refl w)).1
  obtain ⟨V0, hV0⟩ : ∃ V, dt 8 (co HH) = V := ⟨_, rfl⟩
  have HG0 := Lib.hid (show ∀ W, Ext w W → ∃ T, W.heap[0]? = some (.cells V0 T (0, 0)) from fun W h => by rw [← hV0]; exact (HGL.out W h).1)
  have HI0 := Lib.hid (show (Tryd.prog.info? 73).map (·.size) = some V0.size from by rw [← hV0]; exact info_state _)
  have hz := zero_digest.1
  have HZ32 := Lib.hid (fun (_ : Unit) => show (bt 32 fun _ => 0).size = 32 from bt_size _ _)
  obtain ⟨Z, hZ⟩ : ∃ Z, (bt 32 fun _ => 0) = Z := ⟨_, rfl⟩
  -- the slices, the two states
  have ht := run_to_u8 A n ca k (by omega)
  obtain ⟨X, hx, hxr, _⟩ := run_rest_u8 A n ca k hkn hc
  have HTK := Lib.hid (show (b.take k).length = k from by rw [List.length_take, HN.out]; omega)
  have HDK := Lib.hid (show (b.drop k).length = n - k from by rw [List.length_drop, HN.out])
  have HXR := Lib.hid (fun W (h : Ext w W) => show Rd W X (b.drop k) from by
    have h2 := hxr W b (HR.out.ext h) HN.out
    have e : tab (n - k) (fun j => co b (k + j)) = b.drop k := dr_ext (by rw [tab_len, HDK.out]) (fun i hi => by
      rw [tab_len] at hi
      rw [co_tab, if_pos hi]
      unfold co
      rw [List.getElem?_drop])
    rwa [e] at h2)
  obtain ⟨S1, hS1⟩ : ∃ S, hsh HH KK (b.take k) (k / 64) = S := ⟨_, rfl⟩
  obtain ⟨EB, hEB⟩ : ∃ l, endb (b.drop k) n = l := ⟨_, rfl⟩
  obtain ⟨N2, hN2⟩ : ∃ N, EB.length = N := ⟨_, rfl⟩
  obtain ⟨S2, hS2⟩ : ∃ S, hsh S1 KK EB (N2 / 64) = S := ⟨_, rfl⟩
  have hS1l : S1.length = 8 := by rw [← hS1]; exact hsh_len _ _ _ HH_len _
  have hS1w : W32 S1 := by rw [← hS1]; exact hsh_w32 _ _ _ HH_w32 _
  have HT1 := Lib.hid (fun W (h : Ext w W) => show Calls Tryd.prog 38 #[.agg V0, .slice A k ca] W (Tells (.agg (dt 8 (co S1))) W) from by
    have h1 := sh_through HH (b.take k) A ca W (HGL.out W h) HH_w32 HH_len ((HR.out.ext h).take k) (by rw [HTK.out]; omega) (by rw [HTK.out, ← HK.out]; omega) (by rw [HTK.out]; omega)
    rw [HTK.out, hV0, hS1] at h1
    exact h1)
  have HEN := Lib.hid (fun W (h : Ext w W) => show Calls Tryd.prog 39 #[.slice X (n - k) (ca - k), .int .i64 (n : Int)] W (Gives EB W) from by
    have h1 := sh_ending (b.drop k) X (ca - k) n W (HXR.out W h) (by rw [HDK.out, ← HK.out]; omega) (by omega)
    rw [HDK.out, hEB] at h1
    exact h1)
  have HE2 := Lib.hid (show N2 % 64 = 0 ∧ N2 ≤ 1048576 from by
    have hp : padz n = (119 - n % 64) % 64 := rfl
    rw [← hN2, ← hEB, endb_len, HDK.out, hp, ← HK.out]
    omega)
  have HT2 := Lib.hid (fun W (h : Ext w W) B c (hB : Rd W B EB) (hcB : N2 ≤ c) => show Calls Tryd.prog 38 #[.agg (dt 8 (co S1)), .slice B N2 c] W (Tells (.agg (dt 8 (co S2))) W) from by
    have h1 := sh_through S1 EB B c W (HGL.out W h) hS1w hS1l hB (by rw [hN2]; exact hcB) (by rw [hN2]; exact HE2.out.1) (by rw [hN2]; exact HE2.out.2)
    rw [hN2, hS2] at h1
    exact h1)
  have HSE := Lib.hid (fun (_ : Unit) => show hsh HH KK (padded b) ((padded b).length / 64) = S2 from by
    have e := endb_padded b k
    rw [HN.out, hEB] at e
    rw [← e, List.length_append, HTK.out, hN2, ← hS2, ← hS1, hsh_right (m := k / 64) (by rw [HTK.out, ← HK.out]; omega)]
    congr 1
    have := HK.out
    omega)
  have HNB := Lib.hid hN2
  have HS2L := Lib.hid (show S2.length = 8 from by rw [← hS2]; exact hsh_len _ _ _ hS1l _)
  have HS2W := Lib.hid (show W32 S2 from by rw [← hS2]; exact hsh_w32 _ _ _ hS1w _)
  have HIS := Lib.hid (fun S => info_state (co S))
  have HZL := Lib.hid (show dt 8 (fun _ => 0) = #[.int .u32 0, .int .u32 0, .int .u32 0, .int .u32 0, .int .u32 0, .int .u32 0, .int .u32 0, .int .u32 0] from rfl)
  have HGLD := Lib.hid (fun W (h : Ext w W) => show (Instr.loadAt 73 (.pointer (some ⟨0, 0, none⟩))).run Tryd.prog W = .ok (.agg V0) W from by
    obtain ⟨T, hT⟩ := HG0.out W h
    simp only [Instr.loadAt, Instr.sureAddr, Sem.run_bind, Sem.run_pure, Result.andThen]
    exact run_loadVar_row W 0 T 73 V0 (0, 0) _ hT Tryd.underlying73 rfl HI0.out)
  clear hEB hS1w hS1l hS1 hS2 hN2 hV0 hT hgl hr hn hxr hk
  rw [hZ] at hz HZ32
  go_enter Tryd.func19, Tryd.ntmps19
  go_wp2_with fail
  have HX1 := Lib.hid ((Ext.refl w).alloc (.cells Z 39))
  have HR0 := Lib.hid (show (w.alloc (.cells Z 39)).heap[g0]? = some (.cells Z 39 (0, 0)) from by rw [← hg0]; exact heap_alloc_new w _)
  have HS0 := Lib.hid (show g0 < (w.alloc (.cells Z 39)).heap.size from by rw [← hg0]; simp)
  generalize w.alloc (.cells Z 39) = w1 at HX1 HR0 HS0 ⊢
  obtain ⟨V1, hV1⟩ : ∃ V, dt 8 (co S1) = V := ⟨_, rfl⟩
  have HI1 := Lib.hid (info_state (co S1))
  have HSR1 := Lib.hid (show (dt 8 fun _ => 0).size = (dt 8 (co S1)).size from by rw [dt_size, dt_size])
  have HOR1 := Lib.hid (dt_one 8 (co S1))
  obtain ⟨V2, hV2⟩ : ∃ V, dt 8 (co S2) = V := ⟨_, rfl⟩
  have HI2 := Lib.hid (info_state (co S2))
  have HSR2 := Lib.hid (show (dt 8 (co S1)).size = (dt 8 (co S2)).size from by rw [dt_size, dt_size])
  have HOR2 := Lib.hid (dt_one 8 (co S2))
  have HVE2 := Lib.hid (fun (_ : Unit) => hV2)
  rw [hV1] at HT1 HT2 HI1 HSR1 HOR1 HSR2
  rw [hV2] at HT2 HI2 HSR2 HOR2
  clear hV1 hV2
  go_wp2
  refine wp_region_plan (AfterT w1) [0, 1, 2, 3, 4, 5] (.yes 0 (.yes 1 (.yes 2 (.yes 3 (.two 4 (.one 5 (.one 6 .done)) 5 (.one 4 (.one 6 .done))))))) (by kernel_rfl) (fun c a a' w e h => ⟨e ▸ h.1, h.2⟩) (by kernel_rfl) ((Ext.refl w1).drew) ?_
  refine plan_load rfl 73 (.global 0) rfl (.agg V0) (by first | rfl | go_simp) (fun W hW => HGLD.out W (HX1.out.trans hW)) ?_
  refine plan_yes rfl (fun K hK => ?_); go_simp; refine ⟨_, fun _ _ => rfl, hK _ ?_⟩; clear hK K
  refine plan_yes rfl (fun K hK => ?_); go_simp; refine ⟨_, fun _ _ => rfl, hK _ ?_⟩; clear hK K
  refine plan_yes rfl (fun K hK => ?_); go_simp; refine ⟨_, fun W _ => rfl, hK _ ?_⟩; clear hK K
  refine plan_two rfl rfl (fun K hK => ?_) (fun K hK => ?_)
  · go_wp2_with fail
    refine (HT1.out _ (HX1.out.drew)).mono ?_
    rintro e v4 ⟨rfl, hx4⟩
    have HX4 := Lib.hid (show AfterT w1 v4 from Ext.trans ((Ext.refl w1).drew) hx4)
    clear hx4
    go_wp2
    refine ⟨fun _ => HX4.out, ?_⟩
    refine plan_one rfl (fun K hK => ?_)
    go_wp2
    have HX6 := Lib.hid (show AfterT w1 (World.alloc v4 (.cells (dt 8 fun _ => 0) 73)) from Ext.alloc HX4.out _)
    have HB6 := Lib.hid (WBlk.new (T := 73) (n := 8) v4 (fun _ => 0))
    have HGX := Lib.hid (show w1.heap.size ≤ (v4).heap.size from Ext.size HX4.out)
    rw [HZL.out] at HX6 HB6
    refine ⟨fun _ => HX6.out, ?_⟩
    generalize hgx : (v4).heap.size = gx at HB6 HGX ⊢
    generalize World.alloc v4 _ = v6 at HX6 HB6 ⊢
    clear hgx
    refine plan_one rfl (fun K hK => ?_)
    have HG7 := Lib.hid (setRow_heap _ gx _ V1 _ _ HB6.out)
    have HX7 := Lib.hid (Ext.setRow HX6.out HGX.out V1)
    have hb0 := HB6.out
    unfold WBlk at hb0
    have HB0 := Lib.hid hb0
    clear hb0
    go_wp2_with (with_reducible refine wpList_store_all rfl 73 (.tmp 4) (.tmp 17) rfl gx (dt 8 fun _ => 0) V1 rfl rfl HB0.out HI1.out HSR1.out HOR1.out ?_)
    refine ⟨fun h => absurd h (by decide), ?_⟩
    unfold wpPlan
    obtain ⟨wz, hwz⟩ : ∃ q, World.setRow v6 gx V1 = q := ⟨_, rfl⟩
    rw [hwz] at HG7 HX7 ⊢
    clear hwz
    have HLS := Lib.hid (fun W (h : AfterT wz W) => run_load_all W gx 73 V1 8 72 Tryd.underlying73 (WBlk.ext' HG7.out h) HI1.out)
    have HXZ := Lib.hid (HX1.out.trans HX7.out)
    go_wp2
    refine wp_region_plan (AfterT wz) [0, 1, 2, 3, 4, 5, 6] (.yes 0 (.yes 1 (.yes 2 (.yes 3 (.yes 4 (.yes 5 (.one 6 (.one 7 (.one 8 .done))))))))) (by kernel_rfl) (fun c a a' w e h => ⟨e ▸ h.1, h.2⟩) (by kernel_rfl) ((Ext.refl wz).drew) ?_
    refine plan_load rfl 73 (.tmp 4) rfl (.agg V1) (by first | rfl | go_simp) (fun W hW => HLS.out W hW) ?_
    refine plan_yes rfl (fun K hK => ?_); go_simp; refine ⟨_, fun _ _ => rfl, hK _ ?_⟩; clear hK K
    refine plan_yes rfl (fun K hK => ?_); go_simp; refine ⟨_, fun _ _ => rfl, hK _ ?_⟩; clear hK K
    refine plan_yes rfl (fun K hK => ?_); go_simp; refine ⟨_, fun _ _ => rfl, hK _ ?_⟩; clear hK K
    refine plan_yes rfl (fun K hK => ?_); go_simp; refine ⟨_, fun _ _ => rfl, hK _ ?_⟩; clear hK K
    refine plan_yes rfl (fun K hK => ?_); go_simp; refine ⟨_, fun _ _ => rfl, hK _ ?_⟩; clear hK K
    refine plan_one rfl (fun K hK => ?_)
    go_wp2_with fail
    refine (HEN.out _ (HXZ.out.drew)).mono ?_
    rintro e v7 ⟨BE, cE, rfl, hcE, hrE, hx7⟩
    rw [HNB.out] at hcE ⊢
    have HX8 := Lib.hid (show AfterT wz v7 from Ext.trans ((Ext.refl wz).drew) hx7)
    have HRE := Lib.hid hrE
    clear hx7 hrE
    go_wp2
    refine ⟨fun _ => HX8.out, ?_⟩
    refine plan_one rfl (fun K hK => ?_)
    go_wp2_with fail
    refine (HT2.out _ (HXZ.out.trans HX8.out) BE cE HRE.out hcE).mono ?_
    rintro e v8 ⟨rfl, hx8⟩
    have HX9 := Lib.hid (show AfterT wz v8 from Ext.trans HX8.out hx8)
    clear hx8
    go_wp2
    refine ⟨fun h => absurd h (by decide), ?_⟩
    refine plan_one rfl (fun K hK => ?_)
    have HB8 := Lib.hid (WBlk.ext' HG7.out HX9.out)
    have HGA := Lib.hid (setRow_heap _ gx _ V2 _ _ HB8.out)
    have HXA := Lib.hid (Ext.setRow (HX7.out.trans HX9.out) HGX.out V2)
    go_wp2_with (with_reducible refine wpList_store_all rfl 73 (.tmp 4) (.tmp 25) rfl gx V1 V2 rfl rfl HB8.out HI2.out HSR2.out HOR2.out ?_)
    refine ⟨fun h => absurd h (by decide), ?_⟩
    unfold wpPlan
    obtain ⟨wy, hwy⟩ : ∃ q, World.setRow v8 gx V2 = q := ⟨_, rfl⟩
    rw [hwy] at HGA HXA ⊢
    clear hwy
    have HRY := Lib.hid (WBlk.ext' HR0.out HXA.out)
    have HSY := Lib.hid (show gx < wy.heap.size from (Array.getElem?_eq_some_iff.1 HGA.out).1)
    have HXY := Lib.hid (HX1.out.trans HXA.out)
    have HGY := Lib.hid (show WBlk 73 8 wy gx (co S2) from by unfold WBlk; rw [HVE2.out ()]; exact HGA.out)
    have hbs : Z.size = 32 := HZ32.out ()
    have hbo : Z.all (·.oneCell') = true := by rw [← hZ]; exact bt_one _ _
    have g1 := heap_alloc_new wy (.cells Z 39)
    have hst := store32 (wy.alloc (.cells Z 39)) wy.heap.size (fun _ => 0) (fun _ => 0) (by unfold DBlk; rw [hZ]; exact g1)
    rw [hZ, setRow_same _ _ _ _ g1] at hst
    have HG1 := Lib.hid (show DBlk (wy.alloc (.cells Z 39)) wy.heap.size (fun _ => 0) from by unfold DBlk; rw [hZ]; exact g1)
    have HXD := Lib.hid ((Ext.refl wy).alloc (.cells Z 39))
    clear g1
    go_wp2_with fail
    clear hst hbs hbo
    obtain ⟨db, hdb⟩ : ∃ db, wy.heap.size = db := ⟨_, rfl⟩
    have HDB := Lib.hid hdb
    rw [hdb] at HG1 HSY ⊢
    clear hdb
    have HRW := Lib.hid (WBlk.ext' HRY.out HXD.out)
    have HGW := Lib.hid (WBlk.ext HGY.out HXD.out)
    have HXW := Lib.hid (HXY.out.trans HXD.out)
    have HG0D := Lib.hid (show g0 < db from by have := (Array.getElem?_eq_some_iff.1 HRY.out).1; have := HDB.out; omega)
    generalize wy.alloc (.cells Z 39) = W at HG1 HXD HRW HGW HXW ⊢
    go_loopg [27] 32 (fun gk s27 wx => ∃ i : Nat, i + gk = 32 ∧ s27 = .int .i64 (i : Int) ∧ DBlk wx db (fun j => if j < i then digB S2 j else 0) ∧ W.grownBy wx (some db))
    case atStart => exact ⟨0, by omega, rfl, HG1.out.congr (fun i _ => by rw [if_neg (by omega)]), ⟨rfl, rfl, rfl, Nat.le_refl _, fun _ _ _ => rfl⟩⟩
    case round =>
      obtain ⟨i, hig, rfl, hb, hg2⟩ := hrel
      have HB2 := Lib.hid hb
      have HG2 := Lib.hid hg2
      have HIG := Lib.hid hig
      clear hb hg2 hig
      cases gk with
      | zero =>
        have hi32 : 32 ≤ i := by have := HIG.out; omega
        have hi : ¬ ((i : Int) < 32) := by omega
        have d1 : decide ((i : Int) < 32) = false := decide_eq_false hi
        have hbl := HB2.out.congr (f' := digB S2) (fun j hj => by rw [if_pos (by omega)])
        have hrw := (HG2.out.block g0 (by have := (Array.getElem?_eq_some_iff.1 HRW.out).1; exact this) (fun e => by injection e with e; have := HG0D.out; omega)).trans HRW.out
        have HBL := Lib.hid hbl
        have HRR := Lib.hid hrw
        have HG3 := Lib.hid (setRow_heap _ _ _ (bt 32 (digB S2)) _ _ hrw)
        have HX3 := Lib.hid ((HXW.out.more HG2.out (fun q e => by injection e with e; rw [← e, HW0.out]; exact Nat.le_of_lt HG0D.out)).setRow (g := g0) (by rw [HW0.out]; exact Nat.le_refl _) (bt 32 (digB S2)))
        have HIN := Lib.hid (info32 (digB S2))
        have HSZ := Lib.hid (show Z.size = (bt 32 (digB S2)).size by rw [bt_size, (HZ32.out ())])
        have HON := Lib.hid (fun (_ : Unit) => (bt_one 32 (digB S2)))
        have HV := Lib.hid (show Dgc (bt 32 (digB S2)) (sha b) from ⟨bt_size _ _, fun j hj => by
          rw [bt_at 32 _ j hj]
          unfold sha shaK
          rw [co_map _ _ _ (by rw [List.length_range]; exact hj), show co (List.range 32) j = j from by unfold co; rw [List.getElem?_range hj]; rfl, HSE.out ()]⟩)
        clear hi hi32 hbl hrw
        unfold DBlk at HBL
        generalize bt 32 (digB S2) = V at HBL HG3 HX3 HIN HSZ HON HV
        go_wp2_with (first | (with_reducible refine wpList_load_row rfl 39 (.tmp 5) rfl db rfl 39 V (0, 0) _ HBL.out Tryd.underlying39 rfl HIN.out ?_) | (with_reducible refine wpList_store_all rfl 39 (.tmp 2) (.tmp 43) rfl g0 Z V rfl rfl HRR.out HIN.out HSZ.out (HON.out ()) ?_))
        exact ⟨rfl, .agg V, results_cell_row Tryd.results19 _ _ g0 39 V (0, 0) _ rfl HG3.out Tryd.underlying39 rfl HIN.out, V, rfl, HV.out, HX3.out⟩
      | succ gk =>
        have hi : i < 32 := by have := HIG.out; omega
        have hiI : (i : Int) < 32 := by omega
        obtain ⟨q, hq⟩ : ∃ q, i / 4 = q := ⟨_, rfl⟩
        obtain ⟨r, hr⟩ : ∃ r, i % 4 = r := ⟨_, rfl⟩
        obtain ⟨v, hv⟩ : ∃ v, 24 - 8 * r = v := ⟨_, rfl⟩
        have hq8 : q < 8 := by omega
        have hcq := (WBlk.grown HGW.out HG2.out (by have := HSY.out; omega)).cell q hq8
        obtain ⟨x, hx⟩ : ∃ x, co S2 q = x := ⟨_, rfl⟩
        rw [hx] at hcq
        have hx32 : x < 4294967296 := by rw [← hx]; exact HS2W.out.at q
        have e1 : (i : Int) / 4 = (q : Int) := by omega
        have e1' : (i : Int).tdiv 4 = (q : Int) := by rw [Int.tdiv_eq_ediv_of_nonneg (by omega)]; omega
        have e2 : (i : Int) % 4 = (r : Int) := by omega
        have e2' : (i : Int).tmod 4 = (r : Int) := by rw [Int.tmod_eq_emod_of_nonneg (by omega)]; omega
        have e3 : 24 - 8 * (r : Int) = (v : Int) := by omega
        have e4 : wrap64 (8 * (r : Int)) = 8 * (r : Int) := by unfold wrap64; omega
        have e5 : wrap64 (24 - 8 * (r : Int)) = (v : Int) := by unfold wrap64; omega
        have hr4 : r < 4 := by omega
        have hqI : (q : Int) < 8 := by omega
        have hv24 : v ≤ 24 := by omega
        have hfz := HB2.out.frozen i
        have hck := HB2.out.cell i hi
        have HQ := Lib.hid (fun (_ : Unit) => (show digB S2 i = x / 2 ^ v % 256 from by unfold digB; rw [hq, hr, hv, hx]))
        clear hq hr hv hx
        go_wp2_with fail
        go_roundg gk
        case measure => omega
        case rel =>
          have ev : (x : Int) / 2 ^ v % 256 = ((digB S2 i : Nat) : Int) := by rw [(HQ.out ())]; simp
          refine ⟨i + 1, by have := HIG.out; omega, by go_num, ?_, HG2.out.trans (grown_set _ _ _ _)⟩
          rw [ev]
          exact (HB2.out.store i (digB S2 i)).congr (fun j _ => by
            unfold upd
            by_cases h : j = i
            · subst h; rw [if_pos rfl, if_pos (by omega)]
            · rw [if_neg h]
              show (if j < i then digB S2 j else 0) = if j < i + 1 then digB S2 j else 0
              by_cases h2 : j < i
              · rw [if_pos h2, if_pos (by omega)]
              · rw [if_neg h2, if_neg (by omega)])
  · go_wp2
    have HX6 := Lib.hid (show AfterT w1 (World.drew (World.alloc w1 (.cells (dt 8 fun _ => 0) 73))) from (Ext.alloc (Ext.refl w1) _).drew)
    have HB6 := Lib.hid (show WBlk 73 8 (World.drew (World.alloc w1 (.cells (dt 8 fun _ => 0) 73))) w1.heap.size (fun _ => 0) from WBlk.new (T := 73) (n := 8) w1 (fun _ => 0))
    rw [HZL.out] at HX6 HB6
    refine ⟨fun _ => HX6.out, ?_⟩
    generalize hgx : w1.heap.size = gx at HB6 ⊢
    have HGX := Lib.hid (Nat.le_of_eq hgx)
    generalize (World.alloc w1 _).drew = v6 at HX6 HB6 ⊢
    clear hgx
    refine plan_one rfl (fun K hK => ?_)
    go_wp2_with fail
    refine (HT1.out _ (HX1.out.trans HX6.out)).mono ?_
    rintro e v4 ⟨rfl, hx4⟩
    have HX4 := Lib.hid (show AfterT w1 v4 from Ext.trans HX6.out hx4)
    have HB4 := Lib.hid (WBlk.ext HB6.out hx4)
    clear hx4
    go_wp2
    refine ⟨fun _ => HX4.out, ?_⟩
    refine plan_one rfl (fun K hK => ?_)
    have HG7 := Lib.hid (setRow_heap _ gx _ V1 _ _ HB4.out)
    have HX7 := Lib.hid (Ext.setRow HX4.out HGX.out V1)
    have hb0 := HB4.out
    unfold WBlk at hb0
    have HB0 := Lib.hid hb0
    clear hb0
    go_wp2_with (with_reducible refine wpList_store_all rfl 73 (.tmp 4) (.tmp 17) rfl gx (dt 8 fun _ => 0) V1 rfl rfl HB0.out HI1.out HSR1.out HOR1.out ?_)
    refine ⟨fun h => absurd h (by decide), ?_⟩
    unfold wpPlan
    obtain ⟨wz, hwz⟩ : ∃ q, World.setRow v4 gx V1 = q := ⟨_, rfl⟩
    rw [hwz] at HG7 HX7 ⊢
    clear hwz
    have HLS := Lib.hid (fun W (h : AfterT wz W) => run_load_all W gx 73 V1 8 72 Tryd.underlying73 (WBlk.ext' HG7.out h) HI1.out)
    have HXZ := Lib.hid (HX1.out.trans HX7.out)
    go_wp2
    refine wp_region_plan (AfterT wz) [0, 1, 2, 3, 4, 5, 6] (.yes 0 (.yes 1 (.yes 2 (.yes 3 (.yes 4 (.yes 5 (.one 6 (.one 7 (.one 8 .done))))))))) (by kernel_rfl) (fun c a a' w e h => ⟨e ▸ h.1, h.2⟩) (by kernel_rfl) ((Ext.refl wz).drew) ?_
    refine plan_load rfl 73 (.tmp 4) rfl (.agg V1) (by first | rfl | go_simp) (fun W hW => HLS.out W hW) ?_
    refine plan_yes rfl (fun K hK => ?_); go_simp; refine ⟨_, fun _ _ => rfl, hK _ ?_⟩; clear hK K
    refine plan_yes rfl (fun K hK => ?_); go_simp; refine ⟨_, fun _ _ => rfl, hK _ ?_⟩; clear hK K
    refine plan_yes rfl (fun K hK => ?_); go_simp; refine ⟨_, fun _ _ => rfl, hK _ ?_⟩; clear hK K
    refine plan_yes rfl (fun K hK => ?_); go_simp; refine ⟨_, fun _ _ => rfl, hK _ ?_⟩; clear hK K
    refine plan_yes rfl (fun K hK => ?_); go_simp; refine ⟨_, fun _ _ => rfl, hK _ ?_⟩; clear hK K
    refine plan_one rfl (fun K hK => ?_)
    go_wp2_with fail
    refine (HEN.out _ (HXZ.out.drew)).mono ?_
    rintro e v7 ⟨BE, cE, rfl, hcE, hrE, hx7⟩
    rw [HNB.out] at hcE ⊢
    have HX8 := Lib.hid (show AfterT wz v7 from Ext.trans ((Ext.refl wz).drew) hx7)
    have HRE := Lib.hid hrE
    clear hx7 hrE
    go_wp2
    refine ⟨fun _ => HX8.out, ?_⟩
    refine plan_one rfl (fun K hK => ?_)
    go_wp2_with fail
    refine (HT2.out _ (HXZ.out.trans HX8.out) BE cE HRE.out hcE).mono ?_
    rintro e v8 ⟨rfl, hx8⟩
    have HX9 := Lib.hid (show AfterT wz v8 from Ext.trans HX8.out hx8)
    clear hx8
    go_wp2
    refine ⟨fun h => absurd h (by decide), ?_⟩
    refine plan_one rfl (fun K hK => ?_)
    have HB8 := Lib.hid (WBlk.ext' HG7.out HX9.out)
    have HGA := Lib.hid (setRow_heap _ gx _ V2 _ _ HB8.out)
    have HXA := Lib.hid (Ext.setRow (HX7.out.trans HX9.out) HGX.out V2)
    go_wp2_with (with_reducible refine wpList_store_all rfl 73 (.tmp 4) (.tmp 25) rfl gx V1 V2 rfl rfl HB8.out HI2.out HSR2.out HOR2.out ?_)
    refine ⟨fun h => absurd h (by decide), ?_⟩
    unfold wpPlan
    obtain ⟨wy, hwy⟩ : ∃ q, World.setRow v8 gx V2 = q := ⟨_, rfl⟩
    rw [hwy] at HGA HXA ⊢
    clear hwy
    have HRY := Lib.hid (WBlk.ext' HR0.out HXA.out)
    have HSY := Lib.hid (show gx < wy.heap.size from (Array.getElem?_eq_some_iff.1 HGA.out).1)
    have HXY := Lib.hid (HX1.out.trans HXA.out)
    have HGY := Lib.hid (show WBlk 73 8 wy gx (co S2) from by unfold WBlk; rw [HVE2.out ()]; exact HGA.out)
    have hbs : Z.size = 32 := HZ32.out ()
    have hbo : Z.all (·.oneCell') = true := by rw [← hZ]; exact bt_one _ _
    have g1 := heap_alloc_new wy (.cells Z 39)
    have hst := store32 (wy.alloc (.cells Z 39)) wy.heap.size (fun _ => 0) (fun _ => 0) (by unfold DBlk; rw [hZ]; exact g1)
    rw [hZ, setRow_same _ _ _ _ g1] at hst
    have HG1 := Lib.hid (show DBlk (wy.alloc (.cells Z 39)) wy.heap.size (fun _ => 0) from by unfold DBlk; rw [hZ]; exact g1)
    have HXD := Lib.hid ((Ext.refl wy).alloc (.cells Z 39))
    clear g1
    go_wp2_with fail
    clear hst hbs hbo
    obtain ⟨db, hdb⟩ : ∃ db, wy.heap.size = db := ⟨_, rfl⟩
    have HDB := Lib.hid hdb
    rw [hdb] at HG1 HSY ⊢
    clear hdb
    have HRW := Lib.hid (WBlk.ext' HRY.out HXD.out)
    have HGW := Lib.hid (WBlk.ext HGY.out HXD.out)
    have HXW := Lib.hid (HXY.out.trans HXD.out)
    have HG0D := Lib.hid (show g0 < db from by have := (Array.getElem?_eq_some_iff.1 HRY.out).1; have := HDB.out; omega)
    generalize wy.alloc (.cells Z 39) = W at HG1 HXD HRW HGW HXW ⊢
    go_loopg [27] 32 (fun gk s27 wx => ∃ i : Nat, i + gk = 32 ∧ s27 = .int .i64 (i : Int) ∧ DBlk wx db (fun j => if j < i then digB S2 j else 0) ∧ W.grownBy wx (some db))
    case atStart => exact ⟨0, by omega, rfl, HG1.out.congr (fun i _ => by rw [if_neg (by omega)]), ⟨rfl, rfl, rfl, Nat.le_refl _, fun _ _ _ => rfl⟩⟩
    case round =>
      obtain ⟨i, hig, rfl, hb, hg2⟩ := hrel
      have HB2 := Lib.hid hb
      have HG2 := Lib.hid hg2
      have HIG := Lib.hid hig
      clear hb hg2 hig
      cases gk with
      | zero =>
        have hi32 : 32 ≤ i := by have := HIG.out; omega
        have hi : ¬ ((i : Int) < 32) := by omega
        have d1 : decide ((i : Int) < 32) = false := decide_eq_false hi
        have hbl := HB2.out.congr (f' := digB S2) (fun j hj => by rw [if_pos (by omega)])
        have hrw := (HG2.out.block g0 (by have := (Array.getElem?_eq_some_iff.1 HRW.out).1; exact this) (fun e => by injection e with e; have := HG0D.out; omega)).trans HRW.out
        have HBL := Lib.hid hbl
        have HRR := Lib.hid hrw
        have HG3 := Lib.hid (setRow_heap _ _ _ (bt 32 (digB S2)) _ _ hrw)
        have HX3 := Lib.hid ((HXW.out.more HG2.out (fun q e => by injection e with e; rw [← e, HW0.out]; exact Nat.le_of_lt HG0D.out)).setRow (g := g0) (by rw [HW0.out]; exact Nat.le_refl _) (bt 32 (digB S2)))
        have HIN := Lib.hid (info32 (digB S2))
        have HSZ := Lib.hid (show Z.size = (bt 32 (digB S2)).size by rw [bt_size, (HZ32.out ())])
        have HON := Lib.hid (fun (_ : Unit) => (bt_one 32 (digB S2)))
        have HV := Lib.hid (show Dgc (bt 32 (digB S2)) (sha b) from ⟨bt_size _ _, fun j hj => by
          rw [bt_at 32 _ j hj]
          unfold sha shaK
          rw [co_map _ _ _ (by rw [List.length_range]; exact hj), show co (List.range 32) j = j from by unfold co; rw [List.getElem?_range hj]; rfl, HSE.out ()]⟩)
        clear hi hi32 hbl hrw
        unfold DBlk at HBL
        generalize bt 32 (digB S2) = V at HBL HG3 HX3 HIN HSZ HON HV
        go_wp2_with (first | (with_reducible refine wpList_load_row rfl 39 (.tmp 5) rfl db rfl 39 V (0, 0) _ HBL.out Tryd.underlying39 rfl HIN.out ?_) | (with_reducible refine wpList_store_all rfl 39 (.tmp 2) (.tmp 43) rfl g0 Z V rfl rfl HRR.out HIN.out HSZ.out (HON.out ()) ?_))
        exact ⟨rfl, .agg V, results_cell_row Tryd.results19 _ _ g0 39 V (0, 0) _ rfl HG3.out Tryd.underlying39 rfl HIN.out, V, rfl, HV.out, HX3.out⟩
      | succ gk =>
        have hi : i < 32 := by have := HIG.out; omega
        have hiI : (i : Int) < 32 := by omega
        obtain ⟨q, hq⟩ : ∃ q, i / 4 = q := ⟨_, rfl⟩
        obtain ⟨r, hr⟩ : ∃ r, i % 4 = r := ⟨_, rfl⟩
        obtain ⟨v, hv⟩ : ∃ v, 24 - 8 * r = v := ⟨_, rfl⟩
        have hq8 : q < 8 := by omega
        have hcq := (WBlk.grown HGW.out HG2.out (by have := HSY.out; omega)).cell q hq8
        obtain ⟨x, hx⟩ : ∃ x, co S2 q = x := ⟨_, rfl⟩
        rw [hx] at hcq
        have hx32 : x < 4294967296 := by rw [← hx]; exact HS2W.out.at q
        have e1 : (i : Int) / 4 = (q : Int) := by omega
        have e1' : (i : Int).tdiv 4 = (q : Int) := by rw [Int.tdiv_eq_ediv_of_nonneg (by omega)]; omega
        have e2 : (i : Int) % 4 = (r : Int) := by omega
        have e2' : (i : Int).tmod 4 = (r : Int) := by rw [Int.tmod_eq_emod_of_nonneg (by omega)]; omega
        have e3 : 24 - 8 * (r : Int) = (v : Int) := by omega
        have e4 : wrap64 (8 * (r : Int)) = 8 * (r : Int) := by unfold wrap64; omega
        have e5 : wrap64 (24 - 8 * (r : Int)) = (v : Int) := by unfold wrap64; omega
        have hr4 : r < 4 := by omega
        have hqI : (q : Int) < 8 := by omega
        have hv24 : v ≤ 24 := by omega
        have hfz := HB2.out.frozen i
        have hck := HB2.out.cell i hi
        have HQ := Lib.hid (fun (_ : Unit) => (show digB S2 i = x / 2 ^ v % 256 from by unfold digB; rw [hq, hr, hv, hx]))
        clear hq hr hv hx
        go_wp2_with fail
        go_roundg gk
        case measure => omega
        case rel =>
          have ev : (x : Int) / 2 ^ v % 256 = ((digB S2 i : Nat) : Int) := by rw [(HQ.out ())]; simp
          refine ⟨i + 1, by have := HIG.out; omega, by go_num, ?_, HG2.out.trans (grown_set _ _ _ _)⟩
          rw [ev]
          exact (HB2.out.store i (digB S2 i)).congr (fun j _ => by
            unfold upd
            by_cases h : j = i
            · subst h; rw [if_pos rfl, if_pos (by omega)]
            · rw [if_neg h]
              show (if j < i then digB S2 j else 0) = if j < i + 1 then digB S2 j else 0
              by_cases h2 : j < i
              · rw [if_pos h2, if_pos (by omega)]
              · rw [if_neg h2, if_neg (by omega)])
end Go.Proofs.YtjifionpblpfoaaDoor

/-
  What make([]byte, 0, n) does. Conditions: no more than 2^40 bytes.
-/
namespace Go.Proofs.YtjifionpblpfoaaDoor
open Go.RowKit
open Pol (co Sm)

set_option maxRecDepth 100000 in
/-- make([]byte, 0, n). -/
theorem run_make_cap (n : Nat) (N : Int) (hN : N = (n : Int)) (hn : n ≤ 1099511627776) (w : World) :
    (Instr.makeSlice 23 (.int .i64 0) (.int .i64 N)).run Tryd.prog w = .ok (.slice (some ⟨w.heap.size, 0, none⟩) 0 n) (w.alloc (.cells (bt n fun _ => 0) 5)) := by
  subst hN
  obtain ⟨i0, hi, hz0, hz1, hz2⟩ := info_parts u8_info
  have h := run_make (P := Tryd.prog) w 23 5 i0 (.int .u8 0) Tryd.underlying23 hi hz0 .i64 .i64 0 n (by omega) (by omega) (by rw [hz2]; omega) (by omega)
  simp only [Int.toNat_natCast, hz1, Nat.mul_one] at h
  rw [h, ← bt_made]
  rfl
theorem mine_made (w : World) (n : Nat) (hn : n ≤ 1099511627776) : Mine (w.alloc (.cells (bt n fun _ => 0) 5)) w.heap.size (.slice (some ⟨w.heap.size, 0, none⟩) 0 n) [] :=
  World.ownsRow_made w (bt n fun _ => 0) n (Nat.le_refl _) (by unfold maxLen; omega) (by rw [bt_size, Nat.mul_one])
end Go.Proofs.YtjifionpblpfoaaDoor

/-
  Digits of a text, one by one. Conditions: none; no function is named here.
-/
namespace Go.Proofs.YtjifionpblpfoaaDoor
open Go.RowKit
open Pol (co Sm)

theorem hxb_size (l : List Nat) : (hxb l).size = 2 * l.length := by
  show (hxs l).toArray.size = _
  rw [List.size_toArray, hxs_len]
theorem hxs_at : ∀ (l : List Nat) (i : Nat), i < l.length → (hxs l)[2 * i]? = some (hxd (co l i / 16)) ∧ (hxs l)[2 * i + 1]? = some (hxd (co l i % 16))
  | x :: l, 0, _ => ⟨rfl, rfl⟩
  | x :: l, i + 1, h => by
    have ih := hxs_at l i (by simpa using h)
    rw [Pol.co_succ]
    exact ⟨ih.1, ih.2⟩
  | [], _, h => by simp at h

theorem idxL (L : List UInt8) (k : IntKind) (i : Nat) (v : UInt8) (hv : L[i]? = some v) (W : World) : (Instr.index 9 (.string ⟨L.toArray⟩) (.int k (i : Int))).run Tryd.prog W = .ok (.int .u8 ((v.toNat : Nat) : Int)) W := by
  have hi : i < L.length := (List.getElem?_eq_some_iff.1 hv).1
  have hs : (⟨L.toArray⟩ : ByteArray).size = L.length := by show L.toArray.size = _; simp
  rw [run_index_string W 9 _ k _ Tryd.underlying9]
  rw [dif_pos ⟨by omega, by rw [hs]; omega⟩]
  have e : (⟨L.toArray⟩ : ByteArray)[(i : Int).toNat]'(by rw [hs]; omega) = v := by
    show L.toArray[(i : Int).toNat]'(by simp; omega) = v
    simp only [Int.toNat_natCast, List.getElem_toArray]
    exact (List.getElem?_eq_some_iff.1 hv).2
  rw [e]
def dgs : List UInt8 := [48, 49, 50, 51, 52, 53, 54, 55, 56, 57, 97, 98, 99, 100, 101, 102]
theorem dgs_at : ∀ x, x < 16 → dgs[x]? = some (hxd x) := by decide
end Go.Proofs.YtjifionpblpfoaaDoor

/-
  What Hex of layer 10 does. Conditions: none but that the digest reads as bytes.
-/
namespace Go.Proofs.YtjifionpblpfoaaDoor
open Go.RowKit
open Pol (co Sm)

/-- The digits as numbers. -/
def hxn (l : List Nat) : List Nat := (hxs l).map UInt8.toNat
theorem hxn_len (l : List Nat) : (hxn l).length = 2 * l.length := by unfold hxn; rw [List.length_map, hxs_len]
theorem hxn_sm (l : List Nat) : Sm (hxn l) := Pol.co_lt_of fun x hx => by
  unfold hxn at hx
  obtain ⟨y, _, rfl⟩ := List.mem_map.1 hx
  exact y.toNat_lt
theorem hxs_append : ∀ a b : List Nat, hxs (a ++ b) = hxs a ++ hxs b
  | [], _ => rfl
  | x :: a, b => by rw [List.cons_append, hxs, hxs, hxs_append a b]; rfl
theorem hxn_more (l : List Nat) (i : Nat) (h : i < l.length) : hxn (l.take (i + 1)) = hxn (l.take i) ++ [(hxd (co l i / 16)).toNat, (hxd (co l i % 16)).toNat] := by
  unfold hxn
  rw [List.take_succ_eq_append_getElem h, hxs_append, List.map_append]
  have e : co l i = l[i] := by unfold co; rw [List.getElem?_eq_getElem h]; rfl
  rw [e]
  rfl
theorem foldl_push : ∀ (L : List UInt8) (acc : ByteArray), (L.map (fun x => (x.toNat : Int))).foldl (fun (r : ByteArray) n => r.push (UInt8.ofNat n.toNat)) acc = ⟨acc.data ++ L.toArray⟩
  | [], acc => by simp
  | x :: L, acc => by
    rw [List.map_cons, List.foldl_cons, foldl_push L]
    apply ByteArray.ext
    simp [ByteArray.push]
theorem hex_text (w : World) (b o : Nat) (l : List Nat) (n c : Nat) (hn : (hxn l).length = n) (h : Rd w (some ⟨b, o, none⟩) (hxn l)) :
    (Conv.bytesToString (.slice (some ⟨b, o, none⟩) n c)).run Tryd.prog w = .ok (.string (hxb l)) w := by
  have e0 : ((hxs l).map (fun x => (x.toNat : Int))).map (Value.int .u8) = (List.range n).map (fun j => Value.int .u8 ((co (hxn l) j : Nat) : Int)) := by
    apply List.ext_getElem
    · rw [List.length_map, List.length_map, List.length_map, List.length_range, ← hn]; unfold hxn; rw [List.length_map]
    · intro j h1 h2
      have hj : j < (hxs l).length := by simpa using h1
      simp only [List.getElem_map, List.getElem_range]
      congr 2
      unfold hxn co
      rw [List.getElem?_map, List.getElem?_eq_getElem hj]
      rfl
  have hl := run_bytesToString (P := Tryd.prog) w ⟨b, o, none⟩ n c ((hxs l).map (fun x => (x.toNat : Int))) (by
    rw [e0]
    have h2 := run_loadCells (P := Tryd.prog) (w := w) ⟨b, o, none⟩ n (fun j => Value.int .u8 ((co (hxn l) j : Nat) : Int)) (fun j hj => by
      obtain ⟨b', o', e1, hc⟩ := h.2 j (by omega)
      injection e1 with e1
      injection e1 with e2 e3
      subst e2; subst e3
      have e : (⟨b, o, none⟩ : Addr).add j = ⟨b, o + j, none⟩ := by unfold Addr.add; split <;> simp_all
      rw [e]
      exact hc)
    rw [h2])
  rw [hl, foldl_push]
  congr 1
  congr 1
  apply ByteArray.ext
  simp [hxb]

set_option maxRecDepth 100000 in
theorem and15 : ∀ x : Nat, x < 256 → bits .and .u8 (x : Int) 15 = ((x % 16 : Nat) : Int) := by decide
end Go.Proofs.YtjifionpblpfoaaDoor

/-
  What Of and Hex of layer 10 do, as one statement, for the layers above it. Conditions: no more than 2^16 bytes; the constants lie where they were laid.
-/
namespace Go.Proofs.YtjifionpblpfoaaDoor
open Go.RowKit
open Pol (co Sm)

structure ShaOH : Prop where
  of : ∀ (b : List Nat) (A : Option Addr) (c : Nat) (w : World), GL w → Rd w A b → b.length ≤ c → b.length ≤ 65536 → Calls Tryd.prog 19 #[.slice A b.length c] w (DgS (sha b) w)
theorem shaOH : ShaOH where
  of b A c w hg hr hc hl := sh_of b A c w hg hr hc hl
end Go.Proofs.YtjifionpblpfoaaDoor

/-
  EnvelopeUnlike, walked. Conditions: those of EnvMk, EnvCd, ShaOH.
-/
namespace Go.Proofs.YtjifionpblpfoaaDoor
open Go.RowKit
open Pol (co Sm)

set_option maxHeartbeats 12800000 in
set_option maxRecDepth 100000 in
theorem unlike16_walk (M : EnvMk) (C : EnvCd) (S : ShaOH) (s : Int) (nn f x k c y z : Nat) (b : List Nat) (A : Option Addr) (w : World) (hgl : GL w)
    (hb : b.length = k) (hbc : k ≤ c) (hr : Rd w A b) (h1 : nn < 18446744073709551616) (h2 : f < 18446744073709551616) (h3 : x < 18446744073709551616) (hy : y < 256) (hz : z < 256) :
    Calls Tryd.prog 7 #[evv s nn f x A k c, .int .u8 (y : Int), .int .u8 (z : Int)] w (Holds w) := by
  have hx0 := (Ext.refl w).alloc (.cells #[.int .i64 s, .int .u64 (nn : Int), .int .u64 (f : Int), .int .u64 (x : Int), .slice A k c] 25)
  have HX := Lib.hid hx0
  have HG := Lib.hid (heap_alloc_new w (.cells #[.int .i64 s, .int .u64 (nn : Int), .int .u64 (f : Int), .int .u64 (x : Int), .slice A k c] 25))
  have HAW := Lib.hid (fun u (_ : Ext w u) => awake16 M u)
  have HRC := Lib.hid (fun u => ref16_check s nn f x k c b A u hb)
  have hOK := Ev.chk_ok (e := ⟨s, nn, f, x, b⟩)
  clear hx0
  obtain ⟨ck, hck⟩ : ∃ q, Ev.chk ⟨s, nn, f, x, b⟩ = q := ⟨_, rfl⟩
  rw [hck] at HRC hOK
  by_cases hk0 : ck = 0
  rotate_left
  · skip
    have d1 : ((ck : Int) == 0) = false := by simp; omega
    have d2 : ((ck : Int) != 0) = true := by simp; omega
    have d3 : decide ((ck : Int) = 0) = false := decide_eq_false (by omega)
    have d4 : decide (ck = 0) = false := decide_eq_false (by omega)
    clear hk0 hr hgl M C S hck hOK hb
    go_enter Tryd.func7, Tryd.ntmps7
    go_wp2_with fail
    refine (HAW.out _ HX.out).mono ?_
    rintro e w1 ⟨rfl, hx⟩
    replace HX := Lib.hid (HX.out.trans (hx))
    replace HG := Lib.hid ((hx).row HG.out)
    clear hx
    go_wp2_with (refine wpList_load_row_g (by first | rfl | go_simp) 25 (.tmp 3) rfl (w.heap.size) rfl 25 #[.int .i64 s, .int .u64 (nn : Int), .int .u64 (f : Int), .int .u64 (x : Int), .slice A k c] (0, 0) _ HG.out Tryd.underlying25 rfl ev_in16 ?_)
    refine (HRC.out _).mono ?_
    rintro e w2 ⟨rfl, hx⟩
    replace HX := Lib.hid (HX.out.trans (hx))
    replace HG := Lib.hid ((hx).row HG.out)
    clear hx
    go_wp2_with fail
    refine (HAW.out _ HX.out).mono ?_
    rintro e w3 ⟨rfl, hx⟩
    replace HX := Lib.hid (HX.out.trans (hx))
    replace HG := Lib.hid ((hx).row HG.out)
    clear hx
    go_wp2
    go_ret
    exact ⟨rfl, HX.out⟩
  subst hk0
  by_cases hz0 : z = 0
  · subst hz0
    clear hr hgl M C S hck hOK hb
    go_enter Tryd.func7, Tryd.ntmps7
    go_wp2_with fail
    refine (HAW.out _ HX.out).mono ?_
    rintro e w1 ⟨rfl, hx⟩
    replace HX := Lib.hid (HX.out.trans (hx))
    replace HG := Lib.hid ((hx).row HG.out)
    clear hx
    go_wp2_with (refine wpList_load_row_g (by first | rfl | go_simp) 25 (.tmp 3) rfl (w.heap.size) rfl 25 #[.int .i64 s, .int .u64 (nn : Int), .int .u64 (f : Int), .int .u64 (x : Int), .slice A k c] (0, 0) _ HG.out Tryd.underlying25 rfl ev_in16 ?_)
    refine (HRC.out _).mono ?_
    rintro e w2 ⟨rfl, hx⟩
    replace HX := Lib.hid (HX.out.trans (hx))
    replace HG := Lib.hid ((hx).row HG.out)
    clear hx
    go_wp2_with fail
    refine (HAW.out _ HX.out).mono ?_
    rintro e w3 ⟨rfl, hx⟩
    replace HX := Lib.hid (HX.out.trans (hx))
    replace HG := Lib.hid ((hx).row HG.out)
    clear hx
    go_wp2
    go_ret
    exact ⟨rfl, HX.out⟩
  have dz1 : ((z : Int) == 0) = false := by simp; omega
  have dz2 : decide ((z : Int) = 0) = false := decide_eq_false (by omega)
  have dz3 : decide (z = 0) = false := decide_eq_false hz0
  have hok := hOK.1 rfl
  have hk1 : 0 < k := by have h := hok.2.2.2.1; dsimp only at h; omega
  have hk2 : k ≤ 32 := by have h := hok.2.2.2.2; dsimp only at h; omega
  have hs0 : 0 ≤ s := hok.1
  have hs6 : s < 6 := hok.2.1
  obtain ⟨ss, rfl⟩ : ∃ q : Nat, (q : Int) = s := ⟨s.toNat, by omega⟩
  have HBK := Lib.hid hb
  have HKM := Lib.hid hk2
  have HRB := Lib.hid (fun u (h : Ext w u) => hr.ext h)
  have HRW := Lib.hid (fun u (h : Ext w u) => hr.ext h)
  have HSB := Lib.hid hr.1
  have hfit : (Ev.mk (ss : Int) nn f x b).Fit := ⟨h1, h2, h3, hr.1⟩
  have HFT := Lib.hid hfit
  have HOK := Lib.hid hok
  have HFB := Lib.hid (show f ≤ 1152921504606846976 from hok.2.2.1)
  have HSS6 := Lib.hid (show ss < 6 by omega)
  have HCN := Lib.hid (fun (a n' f' x' : Nat) (g1 : a < 6) (g2 : f' ≤ 1152921504606846976) => show Ev.chk ⟨(a : Int), n', f', x', b⟩ = 0 from Ev.chk_ok.2 ⟨by dsimp only; omega, by dsimp only; omega, g2, hok.2.2.2.1, hok.2.2.2.2⟩)
  have HCB := Lib.hid (fun (l : List Nat) (g : l.length = k) => show Ev.chk ⟨(ss : Int), nn, f, x, l⟩ = 0 from Ev.chk_ok.2 ⟨by dsimp only; omega, by dsimp only; omega, hok.2.2.1, by dsimp only; omega, by dsimp only; omega⟩)
  have HN1 := Lib.hid h1
  have HN2 := Lib.hid h2
  have HN3 := Lib.hid h3
  have hel := Ev.enc_len hok hfit
  have HSY := Lib.hid (Ev.enc_sm (e := ⟨(ss : Int), nn, f, x, b⟩) hr.1)
  have HCE := Lib.hid C.enc
  have HCI := Lib.hid C.id
  have HSOF := Lib.hid S.of
  have HGW := Lib.hid hgl
  have HEN := Lib.hid (fun u (hu : Ext w u) => C.enc (ss : Int) nn f x k c b A u hb hbc (hr.ext hu) (by omega) h1 h2 h3)
  unfold EncO at HEN HCE
  rw [hck, Ev.bytes_ok hok] at HEN
  have HID := Lib.hid (fun u (hu : Ext w u) (hg : GL u) => C.id (ss : Int) nn f x k c b A u hg hb hbc (hr.ext hu) (by omega) h1 h2 h3)
  unfold DgS at HID
  obtain ⟨BY, hBY⟩ : ∃ q, Ev.enc ⟨(ss : Int), nn, f, x, b⟩ = q := ⟨_, rfl⟩
  have HBY := Lib.hid hBY
  rw [hBY] at HEN HSY hel
  obtain ⟨ne, hne⟩ : ∃ q, BY.length = q := ⟨_, rfl⟩
  have HNL := Lib.hid hne
  have HBL := Lib.hid (show ne ≤ 64 by omega)
  have HOF := Lib.hid (fun B1 c1 u (g : GL u) (h : Rd u B1 BY) (hc : ne ≤ c1) => show Calls Tryd.prog 19 #[.slice B1 ne c1] u (DgS (sha BY) u) from by rw [← hne]; exact S.of BY B1 c1 u g h (by omega) (by omega))
  unfold DgS at HOF
  clear hr hgl M C S hck hOK hok hb hfit hel hBY hne hs0 hs6 hz0
  go_enter Tryd.func7, Tryd.ntmps7
  go_wp2_with fail
  refine (HAW.out _ HX.out).mono ?_
  rintro e w1 ⟨rfl, hx⟩
  replace HX := Lib.hid (HX.out.trans (hx))
  replace HG := Lib.hid ((hx).row HG.out)
  clear hx
  go_wp2_with (refine wpList_load_row_g (by first | rfl | go_simp) 25 (.tmp 3) rfl (w.heap.size) rfl 25 #[.int .i64 (ss : Int), .int .u64 (nn : Int), .int .u64 (f : Int), .int .u64 (x : Int), .slice A k c] (0, 0) _ HG.out Tryd.underlying25 rfl ev_in16 ?_)
  refine (HRC.out _).mono ?_
  rintro e w2 ⟨rfl, hx⟩
  replace HX := Lib.hid (HX.out.trans (hx))
  replace HG := Lib.hid ((hx).row HG.out)
  clear hx
  have hxo := (Ext.refl w2).alloc (.cells #[.int .i64 (ss : Int), .int .u64 (nn : Int), .int .u64 (f : Int), .int .u64 (x : Int), .slice A k c] 25)
  have HO := Lib.hid (heap_alloc_new w2 (.cells #[.int .i64 (ss : Int), .int .u64 (nn : Int), .int .u64 (f : Int), .int .u64 (x : Int), .slice A k c] 25))
  have HG3 := Lib.hid (hxo.row HG.out)
  have HX3 := Lib.hid (HX.out.trans hxo)
  have g4 := cell_of_row _ _ 4 _ _ _ (((Ext.refl (w2.alloc (.cells #[.int .i64 (ss : Int), .int .u64 (nn : Int), .int .u64 (f : Int), .int .u64 (x : Int), .slice A k c] 25))).alloc (.cells #[] 5)).row HG3.out)
  obtain ⟨go, hgo⟩ : ∃ q, w2.heap.size = q := ⟨_, rfl⟩
  have HLT := Lib.hid (show w.heap.size < go from by have := row_lt HG.out; omega)
  have hs3 : (w2.alloc (.cells #[.int .i64 (ss : Int), .int .u64 (nn : Int), .int .u64 (f : Int), .int .u64 (x : Int), .slice A k c] 25)).heap.size = go + 1 := by rw [← hgo]; simp
  obtain ⟨w3, hw3⟩ : ∃ q, w2.alloc (.cells #[.int .i64 (ss : Int), .int .u64 (nn : Int), .int .u64 (f : Int), .int .u64 (x : Int), .slice A k c] 25) = q := ⟨_, rfl⟩
  rw [hw3] at HO HG3 HX3 hs3
  rw [hgo] at HO
  have HW3 := Lib.hid hw3
  have HGO := Lib.hid hgo
  have HS3 := Lib.hid hs3
  have hme := mine_empty w3
  rw [hs3] at hme
  have HME := Lib.hid hme
  clear hme hs3 hgo hw3 hxo
  obtain ⟨r, hr5⟩ : ∃ q, y % 5 = q := ⟨_, rfl⟩
  have hrb : r < 5 := by omega
  have m1 : Int.tmod (y : Int) 5 = (r : Int) := by rw [← hr5]; rfl
  have m2 : (y : Int) % 5 = (r : Int) := by omega
  clear hr5
  go_upto_block 0 with (first | (with_reducible refine wpList_load_row rfl 25 (.tmp 3) rfl (w.heap.size) rfl 25 #[.int .i64 (ss : Int), .int .u64 (nn : Int), .int .u64 (f : Int), .int .u64 (x : Int), .slice A k c] (0, 0) _ HG.out Tryd.underlying25 rfl ev_in16 ?_) | (at_builtin; rw [HW3.out, HGO.out]; refine wpList_append_new rfl (.tmp 25) (.tmp 27) rfl (go + 1) (go + 1) b rfl HME.out A k c rfl HBK.out (HRB.out _ (HX3.out.alloc _)) (by rw [HBK.out]; have := HKM.out; omega) (by rw [← HS3.out]; exact ((Ext.refl w3).alloc _).size) ?_; intro v4 w4 hm hx hq; obtain ⟨B4, c4, rfl, hc4, hr4⟩ := hm.slice HSB.out; rw [HBK.out] at hc4 hm ⊢; have hx4 := ((Ext.refl w3).alloc (.cells #[] 5)).trans hx; have HO4 := Lib.hid (hx4.row HO.out); have HG4 := Lib.hid (hx4.row HG3.out); have HX4 := Lib.hid (HX3.out.trans hx4); have HR4 := Lib.hid hr4; have HC4 := Lib.hid hc4; have HM4 := Lib.hid hm; have o4 := cell_of_row _ _ 4 _ _ _ HO4.out; have z4 := frozen_of_row _ go 4 _ _ HO4.out; clear hm hx hq hr4 hc4 hx4 HO HG3))
  have HO5 := Lib.hid (show (w4.setCell ⟨go, 4, none⟩ (.slice B4 k c4)).heap[go]? = some (.cells #[.int .i64 (ss : Int), .int .u64 (nn : Int), .int .u64 (f : Int), .int .u64 (x : Int), .slice B4 k c4] 25) from heap_setCell_same w4 go 4 _ _ (.slice B4 k c4) HO4.out)
  have HG5 := Lib.hid (show (w4.setCell ⟨go, 4, none⟩ (.slice B4 k c4)).heap[w.heap.size]? = some (.cells #[.int .i64 (ss : Int), .int .u64 (nn : Int), .int .u64 (f : Int), .int .u64 (x : Int), .slice A k c] 25) from (heap_setCell_other w4 ⟨go, 4, none⟩ w.heap.size (.slice B4 k c4) (by have := HLT.out; dsimp only; omega)).trans HG4.out)
  have HX5 := Lib.hid (HX4.out.setCell (p := ⟨go, 4, none⟩) (by have := HLT.out; dsimp only; omega) (.slice B4 k c4))
  have HR5 := Lib.hid (HR4.out.keep (grown_set' w4 go 4 (.slice B4 k c4)) (fun q p e h0 e2 => by injection e2 with e2; have h1 := (HM4.out.block q (by rw [e]; rfl)).1; omega))
  have HM5 := Lib.hid (HM4.out.only (X := fun q => q = go) (Only.of_grown (grown_set' w4 go 4 (.slice B4 k c4)) (fun k e => by injection e with e; exact e.symm)) (fun q e e2 => by have e3 : q = go := e2; have h1 := (HM4.out.block q e).1; omega))
  generalize w4.setCell ⟨go, 4, none⟩ (.slice B4 k c4) = w5 at HO5 HG5 HX5 HR5 HM5 ⊢
  clear HX HG HO4 HG4 HX4 HR4 HM4 g4 o4 z4 m1 m2
  go_cut [7] from 12 (fun s7 wx => s7 = .pointer (some ⟨go, 0, none⟩) ∧ ∃ (so no fo xo : Nat) (bo : List Nat) (B5 : Option Addr) (c5 : Nat), wx.heap[go]? = some (.cells #[.int .i64 (so : Int), .int .u64 (no : Int), .int .u64 (fo : Int), .int .u64 (xo : Int), .slice B5 k c5] 25) ∧ wx.heap[w.heap.size]? = some (.cells #[.int .i64 (ss : Int), .int .u64 (nn : Int), .int .u64 (f : Int), .int .u64 (x : Int), .slice A k c] 25) ∧ Ext w wx ∧ bo.length = k ∧ k ≤ c5 ∧ Rd wx B5 bo ∧ Ev.chk ⟨(so : Int), no, fo, xo, bo⟩ = 0 ∧ no < 18446744073709551616 ∧ fo < 18446744073709551616 ∧ xo < 18446744073709551616)
  case first =>
    by_cases e0 : r = 0
    · subst e0
      have hs6 := HSS6.out
      obtain ⟨z5, hz5⟩ : ∃ q, z % 5 = q := ⟨_, rfl⟩
      have e1 : Int.tmod (z : Int) 5 = (z5 : Int) := by rw [← hz5]; rfl
      have e1' : (z : Int) % 5 = (z5 : Int) := by omega
      have hz5b : z5 < 5 := by omega
      obtain ⟨so, hso⟩ : ∃ q, (ss + 1 + z5) % 6 = q := ⟨_, rfl⟩
      have e2 : Int.tmod ((ss : Int) + 1 + (z5 : Int)) 6 = (so : Int) := by rw [← hso]; rfl
      have e2' : ((ss : Int) + 1 + (z5 : Int)) % 6 = (so : Int) := by omega
      have hsob := Lib.hid (show so < 6 by omega)
      have g0 := cell_of_row _ _ 0 _ _ _ HG5.out
      have z0 := frozen_of_row _ go 0 _ _ HO5.out
      have o0 := cell_of_row _ _ 0 _ _ _ HO5.out
      clear hz5 hso
      go_wp2
      go_meet
      case rel => exact ⟨rfl, so, nn, f, x, b, B4, c4, heap_setCell_same w5 go 0 _ _ (.int .i64 (so : Int)) HO5.out, (heap_setCell_other w5 ⟨go, 0, none⟩ w.heap.size (.int .i64 (so : Int)) (by have := HLT.out; dsimp only; omega)).trans HG5.out, HX5.out.setCell (p := ⟨go, 0, none⟩) (by have := HLT.out; dsimp only; omega) _, HBK.out, HC4.out, HR5.out.keep (grown_set' w5 go 0 (.int .i64 (so : Int))) (fun q p e h0 e2 => by injection e2 with e2; have h1 := (HM5.out.block q (by rw [e]; rfl)).1; omega), HCN.out so nn f x hsob.out HFB.out, by exact HN1.out, by exact HN2.out, by exact HN3.out⟩
    have dk0 : ((r : Int) == 0) = false := by simp; omega
    have dk0x : decide ((r : Int) = 0) = false := decide_eq_false (by omega)
    have dk0y : decide (r = 0) = false := decide_eq_false e0
    by_cases e1 : r = 1
    · subst e1
      obtain ⟨no, hno⟩ : ∃ q, (nn + z) % 18446744073709551616 = q := ⟨_, rfl⟩
      have e1 : IntKind.u64.wrap ((nn : Int) + (z : Int)) = (no : Int) := by rw [IntKind.wrap_u64]; omega
      have e2 : ((nn : Int) + (z : Int)) % 18446744073709551616 = (no : Int) := by omega
      have NB := Lib.hid (show no < 18446744073709551616 by omega)
      clear hno
      have o0 := cell_of_row _ _ 1 _ _ _ HO5.out
      have z0 := frozen_of_row _ go 1 _ _ HO5.out
      go_wp2
      go_meet
      case rel => exact ⟨rfl, ss, no, f, x, b, B4, c4, heap_setCell_same w5 go 1 _ _ (.int .u64 (no : Int)) HO5.out, (heap_setCell_other w5 ⟨go, 1, none⟩ w.heap.size (.int .u64 (no : Int)) (by have := HLT.out; dsimp only; omega)).trans HG5.out, HX5.out.setCell (p := ⟨go, 1, none⟩) (by have := HLT.out; dsimp only; omega) _, HBK.out, HC4.out, HR5.out.keep (grown_set' w5 go 1 (.int .u64 (no : Int))) (fun q p e h0 e2 => by injection e2 with e2; have h1 := (HM5.out.block q (by rw [e]; rfl)).1; omega), HCN.out ss no f x HSS6.out HFB.out, by exact NB.out, by exact HN2.out, by exact HN3.out⟩
    have dk1 : ((r : Int) == 1) = false := by simp; omega
    have dk1x : decide ((r : Int) = 1) = false := decide_eq_false (by omega)
    by_cases e2 : r = 2
    · subst e2
      obtain ⟨fz, hfz⟩ : ∃ q, f + z = q := ⟨_, rfl⟩
      have e0 : IntKind.u64.wrap ((f : Int) + (z : Int)) = (fz : Int) := by rw [IntKind.wrap_u64]; have := HFB.out; omega
      have e0' : (f : Int) + (z : Int) = (fz : Int) := by omega
      have e0x : ((f : Int) + (z : Int)) % 18446744073709551616 = (fz : Int) := by have := HFB.out; omega
      obtain ⟨fo, hfo⟩ : ∃ q, fz % 1152921504606846976 = q := ⟨_, rfl⟩
      have e1 : Int.tmod (fz : Int) 1152921504606846976 = (fo : Int) := by rw [← hfo]; rfl
      have e1' : (fz : Int) % 1152921504606846976 = (fo : Int) := by omega
      have hfob := Lib.hid (show fo ≤ 1152921504606846976 by omega)
      have NB := Lib.hid (show fo < 18446744073709551616 by omega)
      clear hfz hfo
      have g0 := cell_of_row _ _ 2 _ _ _ HG5.out
      have o0 := cell_of_row _ _ 2 _ _ _ HO5.out
      have z0 := frozen_of_row _ go 2 _ _ HO5.out
      go_wp2
      go_meet
      case rel => exact ⟨rfl, ss, nn, fo, x, b, B4, c4, heap_setCell_same w5 go 2 _ _ (.int .u64 (fo : Int)) HO5.out, (heap_setCell_other w5 ⟨go, 2, none⟩ w.heap.size (.int .u64 (fo : Int)) (by have := HLT.out; dsimp only; omega)).trans HG5.out, HX5.out.setCell (p := ⟨go, 2, none⟩) (by have := HLT.out; dsimp only; omega) _, HBK.out, HC4.out, HR5.out.keep (grown_set' w5 go 2 (.int .u64 (fo : Int))) (fun q p e h0 e2 => by injection e2 with e2; have h1 := (HM5.out.block q (by rw [e]; rfl)).1; omega), HCN.out ss nn fo x HSS6.out hfob.out, by exact HN1.out, by exact NB.out, by exact HN3.out⟩
    have dk2 : ((r : Int) == 2) = false := by simp; omega
    have dk2x : decide ((r : Int) = 2) = false := decide_eq_false (by omega)
    by_cases e3 : r = 3
    · subst e3
      obtain ⟨xo, hno⟩ : ∃ q, (x + z) % 18446744073709551616 = q := ⟨_, rfl⟩
      have e1 : IntKind.u64.wrap ((x : Int) + (z : Int)) = (xo : Int) := by rw [IntKind.wrap_u64]; omega
      have e2 : ((x : Int) + (z : Int)) % 18446744073709551616 = (xo : Int) := by omega
      have NB := Lib.hid (show xo < 18446744073709551616 by omega)
      clear hno
      have o0 := cell_of_row _ _ 3 _ _ _ HO5.out
      have z0 := frozen_of_row _ go 3 _ _ HO5.out
      go_wp2
      go_meet
      case rel => exact ⟨rfl, ss, nn, f, xo, b, B4, c4, heap_setCell_same w5 go 3 _ _ (.int .u64 (xo : Int)) HO5.out, (heap_setCell_other w5 ⟨go, 3, none⟩ w.heap.size (.int .u64 (xo : Int)) (by have := HLT.out; dsimp only; omega)).trans HG5.out, HX5.out.setCell (p := ⟨go, 3, none⟩) (by have := HLT.out; dsimp only; omega) _, HBK.out, HC4.out, HR5.out.keep (grown_set' w5 go 3 (.int .u64 (xo : Int))) (fun q p e h0 e2 => by injection e2 with e2; have h1 := (HM5.out.block q (by rw [e]; rfl)).1; omega), HCN.out ss nn f xo HSS6.out HFB.out, by exact HN1.out, by exact HN2.out, by exact NB.out⟩
    have dk3 : ((r : Int) == 3) = false := by simp; omega
    have dk3x : decide ((r : Int) = 3) = false := decide_eq_false (by omega)
    obtain rfl : r = 4 := by omega
    obtain ⟨g4, n4, cc4, e4, _, _⟩ := HM5.out.spot HSB.out (i := 0) (by rw [HBK.out]; exact hk1)
    obtain ⟨i, hi⟩ : ∃ q, y % k = q := ⟨_, rfl⟩
    have hik : i < k := by rw [← hi]; exact Nat.mod_lt _ (by omega)
    have e1 : Int.tmod (y : Int) (k : Int) = (i : Int) := by rw [← hi]; rfl
    have e2 : (y : Int) % (k : Int) = (i : Int) := by rw [← hi]; rfl
    have hikI : (i : Int) < (k : Int) := by omega
    obtain rfl : B4 = some ⟨g4, 0, none⟩ := by injection e4
    obtain ⟨g0, n0, c0, e0, hc0, hz0⟩ := HM5.out.spot HSB.out (i := i) (by rw [HBK.out]; exact hik)
    have e5 : g0 = g4 := by injection e0 with e1 _ _; injection e1 with e1; injection e1 with e1 _; exact e1.symm
    rw [e5] at hc0 hz0
    have hp := HSB.out i
    obtain ⟨p, hpp⟩ : ∃ p, co b i = p := ⟨_, rfl⟩
    rw [hpp] at hc0 hp
    obtain ⟨zz, hzz⟩ : ∃ q, p ^^^ z = q := ⟨_, rfl⟩
    have hzl : zz < 256 := by rw [← hzz]; exact Gf.xor_lt p z hp (by omega)
    have hxx : bits .xor .u8 (p : Int) (z : Int) = (zz : Int) := by rw [← hzz]; exact u8_xor_nat p z hp (by omega)
    have HZL := Lib.hid hzl
    have HIK := Lib.hid hik
    have o4 := cell_of_row _ _ 4 _ _ _ HO5.out
    have kz : ((k : Int) == 0) = false := by simp; omega
    have kz2 : decide ((k : Int) = 0) = false := decide_eq_false (by omega)
    have kz5 : ¬ k = 0 := by omega
    have ww : IntKind.i64.wrap (y : Int) = (y : Int) := by rw [IntKind.wrap_i64]; omega
    clear e0 e4 e5 hi hpp hp hzl
    go_wp2
    have hB := (Ext.refl w5).drew
    refine wp_region_stab (Ext w5) [0, 1, 2, 3, 4, 5, 6, 7, 8, 9, 10, 11, 12] [(0, true), (1, true), (2, true), (3, true), (4, true), (5, true), (6, true), (7, true), (8, true), (9, true), (10, true), (11, true), (12, true), (13, false)] (by kernel_rfl) (fun c a a' w e h => ⟨e ▸ h.1, h.2⟩) (by kernel_rfl) hB ?_
    refine stab_yes rfl (fun K hK => ?_); go_simp; refine ⟨_, fun _ _ => rfl, hK _ ?_⟩; clear hK K
    refine stab_yes rfl (fun K hK => ?_); go_simp; refine ⟨.slice (some ⟨g4, 0, none⟩) k c4, fun W hW => ?_, hK _ ?_⟩
    · have h1 := Ext.at hW o4
      go_simp
    clear hK K
    refine stab_yes rfl (fun K hK => ?_); go_simp; refine ⟨_, fun _ _ => rfl, hK _ ?_⟩; clear hK K
    refine stab_yes rfl (fun K hK => ?_); go_simp; refine ⟨_, fun _ _ => rfl, hK _ ?_⟩; clear hK K
    refine stab_yes rfl (fun K hK => ?_); go_simp; refine ⟨_, fun _ _ => rfl, hK _ ?_⟩; clear hK K
    refine stab_yes rfl (fun K hK => ?_); go_simp; refine ⟨.slice (some ⟨g4, 0, none⟩) k c4, fun W hW => ?_, hK _ ?_⟩
    · have h1 := Ext.at hW o4
      go_simp
    clear hK K
    refine stab_yes rfl (fun K hK => ?_); go_simp; refine ⟨_, fun _ _ => rfl, hK _ ?_⟩; clear hK K
    refine stab_yes rfl (fun K hK => ?_); go_simp; refine ⟨_, fun _ _ => rfl, hK _ ?_⟩; clear hK K
    refine stab_yes rfl (fun K hK => ?_); go_simp; refine ⟨_, fun _ _ => rfl, hK _ ?_⟩; clear hK K
    refine stab_yes rfl (fun K hK => ?_); go_simp; refine ⟨.int .u8 (p : Int), fun W hW => ?_, hK _ ?_⟩
    · have h1 := Ext.at hW hc0
      go_simp
    clear hK K
    refine stab_yes rfl (fun K hK => ?_); go_simp; refine ⟨_, fun _ _ => rfl, hK _ ?_⟩; clear hK K
    refine stab_yes rfl (fun K hK => ?_); go_simp; refine ⟨.int .u8 (zz : Int), fun _ _ => rfl, hK _ ?_⟩; clear hK K
    refine stab_yes rfl (fun K hK => ?_); go_simp; refine ⟨_, fun _ _ => rfl, hK _ ?_⟩; clear hK K
    have hc1 := Ext.at hB hc0
    have hz1 : w5.drew.frozen? ⟨g4, i, none⟩ = false := hz0
    have HMD := Lib.hid (mine_ext HM5.out hB)
    have HOD := Lib.hid (hB.row HO5.out)
    have HGD := Lib.hid (hB.row HG5.out)
    have HXD := Lib.hid (HX5.out.trans hB)
    clear hc0 hz0 hB o4
    generalize w5.drew = wd at *
    refine stab_one rfl (fun K hK => ?_)
    go_wp2
    refine ⟨fun h => absurd h (by decide), ?_⟩
    unfold wpStab
    go_wp2
    have HMP := Lib.hid (HMD.out.put (x := zz) (by rw [HBK.out]; exact HIK.out))
    have HB4 := Lib.hid (HM5.out.block g4 rfl)
    obtain ⟨B6, c6, e6, hc6, hr6⟩ := HMP.out.slice (sm_put HSB.out HZL.out i)
    rw [List.length_set, HBK.out] at e6 hc6
    obtain ⟨rfl, rfl⟩ : some ⟨g4, 0, none⟩ = B6 ∧ c4 = c6 := by injection e6 with e1 _ e3; exact ⟨e1, e3⟩
    go_meet
    case rel => exact ⟨rfl, ss, nn, f, x, b.set i zz, some ⟨g4, 0, none⟩, c4, (heap_setCell_other wd ⟨g4, i, none⟩ go (.int .u8 (zz : Int)) (by have := HB4.out.1; dsimp only; omega)).trans HOD.out, (heap_setCell_other wd ⟨g4, i, none⟩ w.heap.size (.int .u8 (zz : Int)) (by have := HLT.out; have := HB4.out.1; dsimp only; omega)).trans HGD.out, HXD.out.setCell (p := ⟨g4, i, none⟩) (by have := HLT.out; have := HB4.out.1; dsimp only; omega) _, by rw [List.length_set]; exact HBK.out, HC4.out, hr6, HCB.out _ (by rw [List.length_set]; exact HBK.out), HN1.out, HN2.out, HN3.out⟩
  case rest =>
    obtain ⟨rfl, hcut⟩ := hcut
    clear HO5 HG5 HX5 HR5 HM5 HC4
    obtain ⟨so, no, fo, xo, bo, B5, c5, ho, hg, hxw, hbo, hc5, hr5, hco, q1, q2, q3⟩ := hcut
    have HO := Lib.hid ho
    have HG := Lib.hid hg
    have HX := Lib.hid hxw
    have HR := Lib.hid hr5
    have HCO := Lib.hid hc5
    have hoo := Ev.chk_ok.1 hco
    have hfo : (Ev.mk (so : Int) no fo xo bo).Fit := ⟨q1, q2, q3, hr5.1⟩
    have hleo := Ev.enc_len hoo hfo
    have HSO := Lib.hid (Ev.enc_sm (e := ⟨(so : Int), no, fo, xo, bo⟩) hr5.1)
    have HEO := Lib.hid (fun u B1 c1 (g1 : k ≤ c1) (g2 : Rd u B1 bo) => HCE.out (so : Int) no fo xo k c1 bo B1 u hbo g1 g2 (by omega) q1 q2 q3)
    rw [hco, Ev.bytes_ok hoo] at HEO
    have HIO := Lib.hid (fun u B1 c1 (hg : GL u) (g1 : k ≤ c1) (g2 : Rd u B1 bo) => HCI.out (so : Int) no fo xo k c1 bo B1 u hg hbo g1 g2 (by omega) q1 q2 q3)
    have HSS := Lib.hid (fun u B1 c1 (hu : Ext w u) (g2 : Rd u B1 bo) => ref16_same (ss : Int) (so : Int) nn f x k c no fo xo k c1 b bo A B1 u HBK.out hbo (HRW.out _ hu) g2 (by omega))
    have HEQ := Lib.hid (fun h : Ev.Same ⟨(ss : Int), nn, f, x, b⟩ ⟨(so : Int), no, fo, xo, bo⟩ => show idv sha ⟨(ss : Int), nn, f, x, b⟩ = idv sha ⟨(so : Int), no, fo, xo, bo⟩ from by rw [Ev.same_iff.1 h])
    have hone := (Ev.enc_one HOK.out hoo HFT.out hfo)
    have HNE := Lib.hid (fun (h : ¬ Ev.Same ⟨(ss : Int), nn, f, x, b⟩ ⟨(so : Int), no, fo, xo, bo⟩) (h2 : Ev.enc ⟨(ss : Int), nn, f, x, b⟩ = Ev.enc ⟨(so : Int), no, fo, xo, bo⟩) => h (Ev.same_iff.2 (hone.1 h2)))
    have HIS := Lib.hid (fun (h : idv sha ⟨(ss : Int), nn, f, x, b⟩ = idv sha ⟨(so : Int), no, fo, xo, bo⟩) => show sha (Ev.enc ⟨(ss : Int), nn, f, x, b⟩) = sha (Ev.enc ⟨(so : Int), no, fo, xo, bo⟩) from by rwa [idv_ok HOK.out, idv_ok hoo] at h)
    rw [HBY.out] at HNE HIS
    obtain ⟨YO, hYO⟩ : ∃ q, Ev.enc ⟨(so : Int), no, fo, xo, bo⟩ = q := ⟨_, rfl⟩
    rw [hYO] at HEO HSO HNE HIS hleo
    obtain ⟨no2, hno2⟩ : ∃ q, YO.length = q := ⟨_, rfl⟩
    have HNO := Lib.hid hno2
    have HOG := Lib.hid (fun B1 c1 u (g : GL u) (h : Rd u B1 YO) (hc : no2 ≤ c1) => show Calls Tryd.prog 19 #[.slice B1 no2 c1] u (DgS (sha YO) u) from by rw [← hno2]; exact HSOF.out YO B1 c1 u g h (by omega) (by omega))
    unfold DgS at HOG HIO
    have HSA := Lib.hid (fun u B1 B2 n1 n2 c1 c2 (g1 : BY.length = n1) (g2 : YO.length = n2) (a1 : Rd u B1 BY) (a2 : Rd u B2 YO) => same14 BY YO B1 B2 n1 n2 c1 c2 u g1 g2 a1 a2 (by have := HBL.out; have := HNL.out; omega))
    have HGL := Lib.hid (HGW.out.ext HX.out)
    clear ho hg hxw hbo hc5 hr5 hco q1 q2 q3 hoo hfo hleo hone hYO hno2
    go_wp2_with (with_reducible refine wpList_load_row rfl 25 (.tmp 3) rfl (w.heap.size) rfl 25 #[.int .i64 (ss : Int), .int .u64 (nn : Int), .int .u64 (f : Int), .int .u64 (x : Int), .slice A k c] (0, 0) _ HG.out Tryd.underlying25 rfl ev_in16 ?_)
    refine (HEN.out _ HX.out).mono ?_
    rintro e w6 ⟨v1, rfl, hm, hx⟩
    replace HX := Lib.hid (HX.out.trans (hx))
    replace HG := Lib.hid ((hx).row HG.out)
    replace HO := Lib.hid ((hx).row HO.out)
    replace HR := Lib.hid (HR.out.ext (hx))
    replace HGL := Lib.hid (HGL.out.ext (hx))
    obtain ⟨B1, c1, rfl, hc1, hr1⟩ := hm.slice HSY.out
    rw [HNL.out] at hc1 ⊢
    have HR1 := Lib.hid hr1
    have HC1 := Lib.hid hc1
    clear hm hr1 hc1 hx
    go_wp2_with (with_reducible refine wpList_load_row rfl 25 (.tmp 7) rfl (go) rfl 25 #[.int .i64 (so : Int), .int .u64 (no : Int), .int .u64 (fo : Int), .int .u64 (xo : Int), .slice B5 k c5] (0, 0) _ HO.out Tryd.underlying25 rfl ev_in16 ?_)
    refine (HEO.out _ B5 c5 HCO.out HR.out).mono ?_
    rintro e w7 ⟨v2, rfl, hm, hx⟩
    replace HX := Lib.hid (HX.out.trans (hx))
    replace HG := Lib.hid ((hx).row HG.out)
    replace HO := Lib.hid ((hx).row HO.out)
    replace HR := Lib.hid (HR.out.ext (hx))
    replace HGL := Lib.hid (HGL.out.ext (hx))
    replace HR1 := Lib.hid (HR1.out.ext (hx))
    obtain ⟨B2, c2, rfl, hc2, hr2⟩ := hm.slice HSO.out
    rw [HNO.out] at hc2 ⊢
    have HR2 := Lib.hid hr2
    have HC2 := Lib.hid hc2
    clear hm hr2 hc2 hx
    go_wp2_with (first | (with_reducible refine wpList_load_row rfl 25 (.tmp 3) rfl (w.heap.size) rfl 25 #[.int .i64 (ss : Int), .int .u64 (nn : Int), .int .u64 (f : Int), .int .u64 (x : Int), .slice A k c] (0, 0) _ HG.out Tryd.underlying25 rfl ev_in16 ?_) | (with_reducible refine wpList_load_row rfl 25 (.tmp 7) rfl (go) rfl 25 #[.int .i64 (so : Int), .int .u64 (no : Int), .int .u64 (fo : Int), .int .u64 (xo : Int), .slice B5 k c5] (0, 0) _ HO.out Tryd.underlying25 rfl ev_in16 ?_))
    refine (HSS.out _ B5 c5 HX.out HR.out).mono ?_
    rintro e w8 ⟨rfl, hx⟩
    replace HX := Lib.hid (HX.out.trans (hx))
    replace HG := Lib.hid ((hx).row HG.out)
    replace HO := Lib.hid ((hx).row HO.out)
    replace HR := Lib.hid (HR.out.ext (hx))
    replace HGL := Lib.hid (HGL.out.ext (hx))
    replace HR1 := Lib.hid (HR1.out.ext (hx))
    replace HR2 := Lib.hid (HR2.out.ext (hx))
    clear hx
    by_cases hsm : Ev.Same ⟨(ss : Int), nn, f, x, b⟩ ⟨(so : Int), no, fo, xo, bo⟩
    · rw [decide_eq_true hsm] at HSS ⊢
      go_wp2
      have L1 := Lib.hid (fun (W : World) (h : Ext w8 W) => show (Instr.loadAt 25 (.pointer (some ⟨w.heap.size, 0, none⟩))).run Tryd.prog W = .ok (.agg #[.int .i64 (ss : Int), .int .u64 (nn : Int), .int .u64 (f : Int), .int .u64 (x : Int), .slice A k c]) W from load_ev16 (h.row HG.out))
      have L2 := Lib.hid (fun (W : World) (h : Ext w8 W) => show (Instr.loadAt 25 (.pointer (some ⟨go, 0, none⟩))).run Tryd.prog W = .ok (.agg #[.int .i64 (so : Int), .int .u64 (no : Int), .int .u64 (fo : Int), .int .u64 (xo : Int), .slice B5 k c5]) W from load_ev16 (h.row HO.out))
      clear HG HO
      refine wp_region_stab (Ext w8) [0, 1, 2, 3, 4, 5, 6, 7, 8, 9, 10] [(0, true), (1, true), (2, false), (3, true), (4, true), (6, true), (5, false), (7, false), (8, true), (9, true), (10, false)] (by kernel_rfl) (fun c a a' w e h => ⟨e ▸ h.1, h.2⟩) (by kernel_rfl) (Ext.refl w8).drew ?_
      have hdr := (Ext.refl w8).drew
      replace HX := Lib.hid (HX.out.trans (hdr))
      replace HR := Lib.hid (HR.out.ext (hdr))
      replace HGL := Lib.hid (HGL.out.ext (hdr))
      replace HR1 := Lib.hid (HR1.out.ext (hdr))
      replace HR2 := Lib.hid (HR2.out.ext (hdr))
      have HXC := Lib.hid hdr
      generalize w8.drew = W0 at *
      clear hdr
      refine stab_load rfl 25 (.tmp 3) rfl (.agg #[.int .i64 (ss : Int), .int .u64 (nn : Int), .int .u64 (f : Int), .int .u64 (x : Int), .slice A k c]) (by first | rfl | go_simp) (fun W hW => L1.out W hW) ?_
      refine stab_load rfl 25 (.tmp 7) rfl (.agg #[.int .i64 (so : Int), .int .u64 (no : Int), .int .u64 (fo : Int), .int .u64 (xo : Int), .slice B5 k c5]) (by first | rfl | go_simp) (fun W hW => L2.out W hW) ?_
      refine stab_one rfl (fun K hK => ?_)
      go_wp2_with fail
      refine (HSS.out _ B5 c5 HX.out HR.out).mono ?_
      rintro e w9 ⟨rfl, hx⟩
      replace HX := Lib.hid (HX.out.trans (hx))
      replace HR := Lib.hid (HR.out.ext (hx))
      replace HGL := Lib.hid (HGL.out.ext (hx))
      replace HR1 := Lib.hid (HR1.out.ext (hx))
      replace HR2 := Lib.hid (HR2.out.ext (hx))
      replace HXC := Lib.hid (HXC.out.trans (hx))
      clear hx
      go_wp2_with fail
      refine ⟨fun _ => HXC.out, ?_⟩
      refine stab_yes rfl (fun K hK => ?_); go_simp; refine ⟨_, fun _ _ => rfl, hK _ ?_⟩; clear hK K
      refine stab_load rfl 25 (.tmp 3) rfl (.agg #[.int .i64 (ss : Int), .int .u64 (nn : Int), .int .u64 (f : Int), .int .u64 (x : Int), .slice A k c]) (by first | rfl | go_simp) (fun W hW => L1.out W hW) ?_
      refine stab_load rfl 25 (.tmp 7) rfl (.agg #[.int .i64 (so : Int), .int .u64 (no : Int), .int .u64 (fo : Int), .int .u64 (xo : Int), .slice B5 k c5]) (by first | rfl | go_simp) (fun W hW => L2.out W hW) ?_
      refine stab_one rfl (fun K hK => ?_)
      go_wp2_with fail
      refine (HID.out _ HX.out HGL.out).mono ?_
      rintro e w10 ⟨V, rfl, hV, hx⟩
      replace HX := Lib.hid (HX.out.trans (hx))
      replace HR := Lib.hid (HR.out.ext (hx))
      replace HGL := Lib.hid (HGL.out.ext (hx))
      replace HR1 := Lib.hid (HR1.out.ext (hx))
      replace HR2 := Lib.hid (HR2.out.ext (hx))
      replace HXC := Lib.hid (HXC.out.trans (hx))
      clear hx
      go_wp2_with fail
      refine ⟨fun _ => HXC.out, ?_⟩
      refine stab_one rfl (fun K hK => ?_)
      go_wp2_with fail
      refine (HIO.out _ B5 c5 HGL.out HCO.out HR.out).mono ?_
      rintro e w11 ⟨V2, rfl, hV2, hx⟩
      replace HX := Lib.hid (HX.out.trans (hx))
      replace HR := Lib.hid (HR.out.ext (hx))
      replace HGL := Lib.hid (HGL.out.ext (hx))
      replace HR1 := Lib.hid (HR1.out.ext (hx))
      replace HR2 := Lib.hid (HR2.out.ext (hx))
      replace HXC := Lib.hid (HXC.out.trans (hx))
      have hq := run_eq_dgc hV hV2 (idv_32 _) (idv_32 _) (idv_sm _) (idv_sm _)
      rw [decide_eq_true (HEQ.out hsm)] at hq
      clear hx
      go_wp2_with fail
      refine ⟨fun _ => HXC.out, ?_⟩
      refine stab_yes rfl (fun K hK => ?_); go_simp; refine ⟨_, fun _ _ => rfl, hK _ ?_⟩; clear hK K
      refine stab_yes rfl (fun K hK => ?_); go_simp; refine ⟨_, fun _ _ => rfl, hK _ ?_⟩; clear hK K
      refine stab_one rfl (fun K hK => ?_)
      go_wp2_with fail
      refine ⟨fun _ => HXC.out, ?_⟩
      clear HXC
      unfold wpStab
      go_wp2
      go_ret
      exact ⟨rfl, HX.out⟩
    · rw [decide_eq_false hsm]
      go_wp2
      have L1 := Lib.hid (fun (W : World) (h : Ext w8 W) => show (Instr.loadAt 25 (.pointer (some ⟨w.heap.size, 0, none⟩))).run Tryd.prog W = .ok (.agg #[.int .i64 (ss : Int), .int .u64 (nn : Int), .int .u64 (f : Int), .int .u64 (x : Int), .slice A k c]) W from load_ev16 (h.row HG.out))
      have L2 := Lib.hid (fun (W : World) (h : Ext w8 W) => show (Instr.loadAt 25 (.pointer (some ⟨go, 0, none⟩))).run Tryd.prog W = .ok (.agg #[.int .i64 (so : Int), .int .u64 (no : Int), .int .u64 (fo : Int), .int .u64 (xo : Int), .slice B5 k c5]) W from load_ev16 (h.row HO.out))
      clear HG HO
      rw [show decide (BY = YO) = false from decide_eq_false (HNE.out hsm)] at HSA
      by_cases hid : idv sha ⟨(ss : Int), nn, f, x, b⟩ = idv sha ⟨(so : Int), no, fo, xo, bo⟩
      · refine wp_region_stab (Ext w8) [0, 1, 2, 3, 4, 5, 6, 7, 8, 9, 10, 11, 12, 13, 14, 15, 16, 17, 18] [(0, true), (1, true), (2, false), (3, true), (4, true), (5, true), (7, true), (6, false), (8, false), (9, true), (10, true), (11, true), (13, true), (12, false), (14, false), (15, true), (16, true), (17, true), (18, false)] (by kernel_rfl) (fun c a a' w e h => ⟨e ▸ h.1, h.2⟩) (by kernel_rfl) (Ext.refl w8).drew ?_
        have hdr := (Ext.refl w8).drew
        replace HX := Lib.hid (HX.out.trans (hdr))
        replace HR := Lib.hid (HR.out.ext (hdr))
        replace HGL := Lib.hid (HGL.out.ext (hdr))
        replace HR1 := Lib.hid (HR1.out.ext (hdr))
        replace HR2 := Lib.hid (HR2.out.ext (hdr))
        have HXC := Lib.hid hdr
        generalize w8.drew = W0 at *
        clear hdr
        refine stab_yes rfl (fun K hK => ?_); go_simp; refine ⟨_, fun _ _ => rfl, hK _ ?_⟩; clear hK K
        refine stab_yes rfl (fun K hK => ?_); go_simp; refine ⟨_, fun _ _ => rfl, hK _ ?_⟩; clear hK K
        refine stab_one rfl (fun K hK => ?_)
        go_wp2_with fail
        refine (HSA.out _ B1 B2 ne no2 c1 c2 HNL.out HNO.out HR1.out HR2.out).mono ?_
        rintro e w9 ⟨rfl, hx⟩
        replace HX := Lib.hid (HX.out.trans (hx))
        replace HR := Lib.hid (HR.out.ext (hx))
        replace HGL := Lib.hid (HGL.out.ext (hx))
        replace HR1 := Lib.hid (HR1.out.ext (hx))
        replace HR2 := Lib.hid (HR2.out.ext (hx))
        replace HXC := Lib.hid (HXC.out.trans (hx))
        clear hx
        go_wp2_with fail
        refine ⟨fun _ => HXC.out, ?_⟩
        refine stab_yes rfl (fun K hK => ?_); go_simp; refine ⟨_, fun _ _ => rfl, hK _ ?_⟩; clear hK K
        refine stab_yes rfl (fun K hK => ?_); go_simp; refine ⟨_, fun _ _ => rfl, hK _ ?_⟩; clear hK K
        refine stab_load rfl 25 (.tmp 3) rfl (.agg #[.int .i64 (ss : Int), .int .u64 (nn : Int), .int .u64 (f : Int), .int .u64 (x : Int), .slice A k c]) (by first | rfl | go_simp) (fun W hW => L1.out W hW) ?_
        refine stab_load rfl 25 (.tmp 7) rfl (.agg #[.int .i64 (so : Int), .int .u64 (no : Int), .int .u64 (fo : Int), .int .u64 (xo : Int), .slice B5 k c5]) (by first | rfl | go_simp) (fun W hW => L2.out W hW) ?_
        refine stab_one rfl (fun K hK => ?_)
        go_wp2_with fail
        refine (HID.out _ HX.out HGL.out).mono ?_
        rintro e w10 ⟨V, rfl, hV, hx⟩
        replace HX := Lib.hid (HX.out.trans (hx))
        replace HR := Lib.hid (HR.out.ext (hx))
        replace HGL := Lib.hid (HGL.out.ext (hx))
        replace HR1 := Lib.hid (HR1.out.ext (hx))
        replace HR2 := Lib.hid (HR2.out.ext (hx))
        replace HXC := Lib.hid (HXC.out.trans (hx))
        clear hx
        go_wp2_with fail
        refine ⟨fun _ => HXC.out, ?_⟩
        refine stab_one rfl (fun K hK => ?_)
        go_wp2_with fail
        refine (HIO.out _ B5 c5 HGL.out HCO.out HR.out).mono ?_
        rintro e w11 ⟨V2, rfl, hV2, hx⟩
        replace HX := Lib.hid (HX.out.trans (hx))
        replace HR := Lib.hid (HR.out.ext (hx))
        replace HGL := Lib.hid (HGL.out.ext (hx))
        replace HR1 := Lib.hid (HR1.out.ext (hx))
        replace HR2 := Lib.hid (HR2.out.ext (hx))
        replace HXC := Lib.hid (HXC.out.trans (hx))
        have hq := run_ne_dgc hV hV2 (idv_32 _) (idv_32 _) (idv_sm _) (idv_sm _)
        rw [decide_eq_true hid] at hq
        clear hx
        go_wp2_with fail
        refine ⟨fun _ => HXC.out, ?_⟩
        refine stab_yes rfl (fun K hK => ?_); go_simp; refine ⟨_, fun _ _ => rfl, hK _ ?_⟩; clear hK K
        refine stab_yes rfl (fun K hK => ?_); go_simp; refine ⟨_, fun _ _ => rfl, hK _ ?_⟩; clear hK K
        refine stab_yes rfl (fun K hK => ?_); go_simp; refine ⟨_, fun _ _ => rfl, hK _ ?_⟩; clear hK K
        refine stab_yes rfl (fun K hK => ?_); go_simp; refine ⟨_, fun _ _ => rfl, hK _ ?_⟩; clear hK K
        refine stab_one rfl (fun K hK => ?_)
        go_wp2_with fail
        refine (HOF.out B1 c1 _ HGL.out HR1.out HC1.out).mono ?_
        rintro e w12 ⟨V3, rfl, hV3, hx⟩
        replace HX := Lib.hid (HX.out.trans (hx))
        replace HR := Lib.hid (HR.out.ext (hx))
        replace HGL := Lib.hid (HGL.out.ext (hx))
        replace HR1 := Lib.hid (HR1.out.ext (hx))
        replace HR2 := Lib.hid (HR2.out.ext (hx))
        replace HXC := Lib.hid (HXC.out.trans (hx))
        clear hx
        go_wp2_with fail
        refine ⟨fun _ => HXC.out, ?_⟩
        refine stab_one rfl (fun K hK => ?_)
        go_wp2_with fail
        refine (HOG.out B2 c2 _ HGL.out HR2.out HC2.out).mono ?_
        rintro e w13 ⟨V4, rfl, hV4, hx⟩
        replace HX := Lib.hid (HX.out.trans (hx))
        replace HR := Lib.hid (HR.out.ext (hx))
        replace HGL := Lib.hid (HGL.out.ext (hx))
        replace HR1 := Lib.hid (HR1.out.ext (hx))
        replace HR2 := Lib.hid (HR2.out.ext (hx))
        replace HXC := Lib.hid (HXC.out.trans (hx))
        have hq2 := run_eq_dgc hV3 hV4 (sha_len _) (sha_len _) (sha_sm _) (sha_sm _)
        rw [decide_eq_true (HIS.out hid)] at hq2
        clear hx
        go_wp2_with fail
        refine ⟨fun _ => HXC.out, ?_⟩
        refine stab_yes rfl (fun K hK => ?_); go_simp; refine ⟨_, fun _ _ => rfl, hK _ ?_⟩; clear hK K
        refine stab_yes rfl (fun K hK => ?_); go_simp; refine ⟨_, fun _ _ => rfl, hK _ ?_⟩; clear hK K
        refine stab_yes rfl (fun K hK => ?_); go_simp; refine ⟨_, fun _ _ => rfl, hK _ ?_⟩; clear hK K
        refine stab_one rfl (fun K hK => ?_)
        go_wp2_with fail
        refine ⟨fun _ => HXC.out, ?_⟩
        clear HXC
        unfold wpStab
        go_wp2
        go_ret
        exact ⟨rfl, HX.out⟩
      · refine wp_region_stab (Ext w8) [0, 1, 2, 3, 4, 5, 6, 7, 8, 9, 10, 11, 12, 13, 14, 15, 16, 17, 18] [(0, true), (1, true), (2, false), (3, true), (4, true), (5, true), (7, true), (6, false), (8, false), (9, true), (10, true), (11, true), (12, true), (13, true), (14, true), (15, true), (16, true), (17, true), (18, false)] (by kernel_rfl) (fun c a a' w e h => ⟨e ▸ h.1, h.2⟩) (by kernel_rfl) (Ext.refl w8).drew ?_
        have hdr := (Ext.refl w8).drew
        replace HX := Lib.hid (HX.out.trans (hdr))
        replace HR := Lib.hid (HR.out.ext (hdr))
        replace HGL := Lib.hid (HGL.out.ext (hdr))
        replace HR1 := Lib.hid (HR1.out.ext (hdr))
        replace HR2 := Lib.hid (HR2.out.ext (hdr))
        have HXC := Lib.hid hdr
        generalize w8.drew = W0 at *
        clear hdr
        refine stab_yes rfl (fun K hK => ?_); go_simp; refine ⟨_, fun _ _ => rfl, hK _ ?_⟩; clear hK K
        refine stab_yes rfl (fun K hK => ?_); go_simp; refine ⟨_, fun _ _ => rfl, hK _ ?_⟩; clear hK K
        refine stab_one rfl (fun K hK => ?_)
        go_wp2_with fail
        refine (HSA.out _ B1 B2 ne no2 c1 c2 HNL.out HNO.out HR1.out HR2.out).mono ?_
        rintro e w9 ⟨rfl, hx⟩
        replace HX := Lib.hid (HX.out.trans (hx))
        replace HR := Lib.hid (HR.out.ext (hx))
        replace HGL := Lib.hid (HGL.out.ext (hx))
        replace HR1 := Lib.hid (HR1.out.ext (hx))
        replace HR2 := Lib.hid (HR2.out.ext (hx))
        replace HXC := Lib.hid (HXC.out.trans (hx))
        clear hx
        go_wp2_with fail
        refine ⟨fun _ => HXC.out, ?_⟩
        refine stab_yes rfl (fun K hK => ?_); go_simp; refine ⟨_, fun _ _ => rfl, hK _ ?_⟩; clear hK K
        refine stab_yes rfl (fun K hK => ?_); go_simp; refine ⟨_, fun _ _ => rfl, hK _ ?_⟩; clear hK K
        refine stab_load rfl 25 (.tmp 3) rfl (.agg #[.int .i64 (ss : Int), .int .u64 (nn : Int), .int .u64 (f : Int), .int .u64 (x : Int), .slice A k c]) (by first | rfl | go_simp) (fun W hW => L1.out W hW) ?_
        refine stab_load rfl 25 (.tmp 7) rfl (.agg #[.int .i64 (so : Int), .int .u64 (no : Int), .int .u64 (fo : Int), .int .u64 (xo : Int), .slice B5 k c5]) (by first | rfl | go_simp) (fun W hW => L2.out W hW) ?_
        refine stab_one rfl (fun K hK => ?_)
        go_wp2_with fail
        refine (HID.out _ HX.out HGL.out).mono ?_
        rintro e w10 ⟨V, rfl, hV, hx⟩
        replace HX := Lib.hid (HX.out.trans (hx))
        replace HR := Lib.hid (HR.out.ext (hx))
        replace HGL := Lib.hid (HGL.out.ext (hx))
        replace HR1 := Lib.hid (HR1.out.ext (hx))
        replace HR2 := Lib.hid (HR2.out.ext (hx))
        replace HXC := Lib.hid (HXC.out.trans (hx))
        clear hx
        go_wp2_with fail
        refine ⟨fun _ => HXC.out, ?_⟩
        refine stab_one rfl (fun K hK => ?_)
        go_wp2_with fail
        refine (HIO.out _ B5 c5 HGL.out HCO.out HR.out).mono ?_
        rintro e w11 ⟨V2, rfl, hV2, hx⟩
        replace HX := Lib.hid (HX.out.trans (hx))
        replace HR := Lib.hid (HR.out.ext (hx))
        replace HGL := Lib.hid (HGL.out.ext (hx))
        replace HR1 := Lib.hid (HR1.out.ext (hx))
        replace HR2 := Lib.hid (HR2.out.ext (hx))
        replace HXC := Lib.hid (HXC.out.trans (hx))
        have hq := run_ne_dgc hV hV2 (idv_32 _) (idv_32 _) (idv_sm _) (idv_sm _)
        rw [decide_eq_false hid] at hq
        clear hx
        go_wp2_with fail
        refine ⟨fun _ => HXC.out, ?_⟩
        refine stab_yes rfl (fun K hK => ?_); go_simp; refine ⟨_, fun _ _ => rfl, hK _ ?_⟩; clear hK K
        refine stab_yes rfl (fun K hK => ?_); go_simp; refine ⟨_, fun _ _ => rfl, hK _ ?_⟩; clear hK K
        refine stab_no rfl (fun K hK => ?_); go_simp; refine hK _ ?_; clear hK K
        refine stab_no rfl (fun K hK => ?_); go_simp; refine hK _ ?_; clear hK K
        refine stab_no rfl (fun K hK => ?_); go_simp; refine hK _ ?_; clear hK K
        refine stab_no rfl (fun K hK => ?_); go_simp; refine hK _ ?_; clear hK K
        refine stab_no rfl (fun K hK => ?_); go_simp; refine hK _ ?_; clear hK K
        refine stab_yes rfl (fun K hK => ?_); go_simp; refine ⟨_, fun _ _ => rfl, hK _ ?_⟩; clear hK K
        refine stab_yes rfl (fun K hK => ?_); go_simp; refine ⟨_, fun _ _ => rfl, hK _ ?_⟩; clear hK K
        refine stab_one rfl (fun K hK => ?_)
        go_wp2_with fail
        refine ⟨fun _ => HXC.out, ?_⟩
        clear HXC
        unfold wpStab
        go_wp2
        go_ret
        exact ⟨rfl, HX.out⟩
end Go.Proofs.YtjifionpblpfoaaDoor

/-
  The code's own Check of layer 16. Conditions: none.
-/
namespace Go.Proofs.YtjifionpblpfoaaDoor
open Go.RowKit
open Pol (co Sm)

set_option maxHeartbeats 1600000 in
theorem ev_check (s : Int) (n f x k c : Nat) (b : List Nat) (A : Option Addr) (w : World) (hk : b.length = k) :
    Calls Tryd.prog 14 #[evv s n f x A k c] w (Tells (.int .i64 ((Ev.chk ⟨s, n, f, x, b⟩ : Nat) : Int)) w) := by
  unfold Ev.chk
  dsimp only
  rw [hk]
  clear hk
  by_cases h1 : s < 0
  · have d1 : decide (s < 0) = true := decide_eq_true h1
    rw [if_pos (.inl h1)]
    go_enter Tryd.func14, Tryd.ntmps14
    go_wp2
    go_ret
    exact ⟨rfl, (Ext.refl _).alloc _⟩
  have d1 : decide (s < 0) = false := decide_eq_false h1
  by_cases h2 : 6 ≤ s
  · have d2 : decide (s ≥ 6) = true := decide_eq_true h2
    have d2' : decide (6 ≤ s) = true := decide_eq_true h2
    rw [if_pos (.inr h2)]
    go_enter Tryd.func14, Tryd.ntmps14
    go_wp2
    go_ret
    exact ⟨rfl, (Ext.refl _).alloc _⟩
  have d2 : decide (s ≥ 6) = false := decide_eq_false h2
  have d2' : decide (6 ≤ s) = false := decide_eq_false h2
  rw [if_neg (by omega)]
  by_cases h3 : 1152921504606846976 < f
  · have d3 : decide ((f : Int) > 1152921504606846976) = true := decide_eq_true (by omega)
    have d3' : decide ((1152921504606846976 : Int) < (f : Int)) = true := decide_eq_true (by omega)
    rw [if_pos h3]
    go_enter Tryd.func14, Tryd.ntmps14
    go_wp2
    go_ret
    exact ⟨rfl, (Ext.refl _).alloc _⟩
  have d3 : decide ((f : Int) > 1152921504606846976) = false := decide_eq_false (by omega)
  have d3' : decide ((1152921504606846976 : Int) < (f : Int)) = false := decide_eq_false (by omega)
  rw [if_neg h3]
  by_cases h4 : k < 1
  · have d4 : decide ((k : Int) < 1) = true := decide_eq_true (by omega)
    rw [if_pos (.inl h4)]
    go_enter Tryd.func14, Tryd.ntmps14
    go_wp2
    go_ret
    exact ⟨rfl, (Ext.refl _).alloc _⟩
  have d4 : decide ((k : Int) < 1) = false := decide_eq_false (by omega)
  by_cases h5 : 32 < k
  · have d5 : decide ((k : Int) > 32) = true := decide_eq_true (by omega)
    have d5' : decide ((32 : Int) < (k : Int)) = true := decide_eq_true (by omega)
    rw [if_pos (.inr h5)]
    go_enter Tryd.func14, Tryd.ntmps14
    go_wp2
    go_ret
    exact ⟨rfl, (Ext.refl _).alloc _⟩
  have d5 : decide ((k : Int) > 32) = false := decide_eq_false (by omega)
  have d5' : decide ((32 : Int) < (k : Int)) = false := decide_eq_false (by omega)
  rw [if_neg (by omega)]
  go_enter Tryd.func14, Tryd.ntmps14
  go_wp2
  go_ret
  exact ⟨rfl, (Ext.refl _).alloc _⟩
end Go.Proofs.YtjifionpblpfoaaDoor

/-
  The builtin copy of bytes to the front of a block of the call's own. Conditions: the block is at least as long.
-/
namespace Go.Proofs.YtjifionpblpfoaaDoor
open Go.RowKit
open Pol (co Sm)

/-- A copy of bytes to the front of a block of the call's own. -/
theorem splice_bt (n : Nat) (f : Nat → Nat) (a : List Nat) (h : a.length ≤ n) : (splice (bt n f).toList 0 (bv a)).toArray = bt n (fun i => if i < a.length then co a i else f i) := by
  apply Array.ext
  · simp [splice, bv_len, bt_size]; omega
  · intro i h1 h2
    have hi : i < n := by rwa [bt_size] at h2
    rw [← Option.some_inj, ← Array.getElem?_eq_getElem, ← Array.getElem?_eq_getElem, bt_at _ _ _ hi]
    simp only [splice, List.take_zero, List.nil_append, Nat.zero_add, List.getElem?_toArray, bv_len]
    by_cases hia : i < a.length
    · rw [List.getElem?_append_left (by rw [bv_len]; exact hia), bv_at a i hia, if_pos hia]
    · rw [List.getElem?_append_right (by rw [bv_len]; omega), List.getElem?_drop, bv_len, if_neg hia, show a.length + (i - a.length) = i from by omega]
      have := bt_at n f i hi
      simpa using this
theorem wpList_copy_blk {ops : Array Oper} {rest : List Oper} {o : Oper} {act : Act} {w : World} {Q : Exit → Act → World → Prop} (hgd : o.guard = none) (d s : Operand)
    (ho : o.op = .call { callee := .builtin .copy, args := #[d, s], argTypes := #[23, 23] }) (g n dc : Nat) (f : Nat → Nat) (hd : act.eval d = .slice (some ⟨g, 0, none⟩) n dc) (hb : Blk w g n f)
    (A : Option Addr) (a : List Nat) (k c : Nat) (hs : act.eval s = .slice A k c) (hk : a.length = k) (hr : Rd w A a) (hn : k ≤ n) (w0 : World) (hx : Ext w0 w) (hg : w0.heap.size ≤ g)
    (h : ∀ w', Hid (Blk w' g n (fun i => if i < a.length then co a i else f i)) → Ext w0 w' → wpList Tryd.prog ops Q rest (act.put o.dst (goInt k)) w') :
    wpList Tryd.prog ops Q (o :: rest) act w := by
  subst hk
  refine wpList_copy_splice hgd d s 23 23 ho 5 Tryd.underlying23 (by kernel_rfl) _ A n dc a.length c hd hs g 0 (bt n f).toList 5 (by unfold Blk at hb; simpa using hb) (bv a) (by rw [bv_len]; exact (Nat.min_eq_left hn).symm)
    (fun hp => ⟨rfl, ?_⟩) (by simp [bv_len, bt_size]; omega) (bv_one a) w0.heap.size w0 hx.below hg ?_
  · rw [bv_len] at hp
    obtain ⟨b, o', e, hc⟩ := hr.addr hp
    refine ⟨_, e, fun j v hj => ?_⟩
    have hj' : j < a.length := by
      have := (List.getElem?_eq_some_iff.1 hj).1
      rwa [bv_len] at this
    rw [addr_add, hc j hj', ← bv_at a j hj', hj]
  · intro w' HG hB
    rw [bv_len]
    refine h w' (Lib.hid ?_) ⟨hB⟩
    unfold Blk
    rw [HG.out, splice_bt n f a hn]
end Go.Proofs.YtjifionpblpfoaaDoor

/-
  What Fill of layer 6 does. Conditions: no more than 2^12 bytes.
-/
namespace Go.Proofs.YtjifionpblpfoaaDoor
open Go.RowKit
open Pol (co Sm)

/-- A copy of bytes somewhere into a block of the call's own. -/
theorem splice_at (n off : Nat) (f : Nat → Nat) (a : List Nat) (h : off + a.length ≤ n) : (splice (bt n f).toList off (bv a)).toArray = bt n (fun i => if off ≤ i ∧ i < off + a.length then co a (i - off) else f i) := by
  apply Array.ext
  · simp [splice, bv_len, bt_size]; omega
  · intro i h1 h2
    have hi : i < n := by rwa [bt_size] at h2
    have hl : (bt n f).toList.length = n := by simp [bt_size]
    have hb : ∀ j, j < n → (bt n f).toList[j]? = some (.int .u8 ((f j : Nat) : Int)) := fun j hj => by simpa using bt_at n f j hj
    rw [← Option.some_inj, ← Array.getElem?_eq_getElem, ← Array.getElem?_eq_getElem, bt_at _ _ _ hi]
    simp only [splice, List.getElem?_toArray, bv_len]
    by_cases h1 : i < off
    · rw [List.getElem?_append_left (by rw [List.length_take, hl]; omega), List.getElem?_take, if_pos h1, if_neg (by omega), hb i hi]
    · rw [List.getElem?_append_right (by rw [List.length_take, hl]; omega), List.length_take, hl, Nat.min_eq_left (by omega)]
      by_cases hia : i - off < a.length
      · rw [List.getElem?_append_left (by rw [bv_len]; exact hia), bv_at a _ hia, if_pos (by omega)]
      · rw [List.getElem?_append_right (by rw [bv_len]; omega), List.getElem?_drop, bv_len, if_neg (by omega), show off + a.length + (i - off - a.length) = i from by omega, hb i hi]
theorem wpList_copy_at {ops : Array Oper} {rest : List Oper} {o : Oper} {act : Act} {w : World} {Q : Exit → Act → World → Prop} (hgd : o.guard = none) (d s : Operand)
    (ho : o.op = .call { callee := .builtin .copy, args := #[d, s], argTypes := #[23, 23] }) (g n off dl dc : Nat) (X : Option Addr) (f : Nat → Nat) (hd : act.eval d = .slice X dl dc) (hb : Blk w g n f)
    (A : Option Addr) (a : List Nat) (k c : Nat) (hs : act.eval s = .slice A k c) (hk : a.length = k) (hr : Rd w A a) (hX : 0 < k → X = some ⟨g, off, none⟩) (hdl : k ≤ dl) (hn : off + k ≤ n) (w0 : World) (hx : Ext w0 w) (hg : w0.heap.size ≤ g)
    (h : ∀ w', Hid (Blk w' g n (fun i => if off ≤ i ∧ i < off + k then co a (i - off) else f i)) → Ext w0 w' → wpList Tryd.prog ops Q rest (act.put o.dst (goInt k)) w') :
    wpList Tryd.prog ops Q (o :: rest) act w := by
  subst hk
  refine wpList_copy_splice hgd d s 23 23 ho 5 Tryd.underlying23 (by kernel_rfl) X A dl dc a.length c hd hs g off (bt n f).toList 5 (by unfold Blk at hb; simpa using hb) (bv a) (by rw [bv_len]; exact (Nat.min_eq_left hdl).symm)
    (fun hp => ⟨hX (by rwa [bv_len] at hp), ?_⟩) (by simp [bv_len, bt_size]; omega) (bv_one a) w0.heap.size w0 hx.below hg ?_
  · rw [bv_len] at hp
    obtain ⟨b, o', e, hc⟩ := hr.addr hp
    refine ⟨_, e, fun j v hj => ?_⟩
    have hj' : j < a.length := by
      have := (List.getElem?_eq_some_iff.1 hj).1
      rwa [bv_len] at this
    rw [addr_add, hc j hj', ← bv_at a j hj', hj]
  · intro w' HG hB
    rw [bv_len]
    refine h w' (Lib.hid ?_) ⟨hB⟩
    unfold Blk
    rw [HG.out, splice_at n off f a hn]
set_option maxHeartbeats 800000 in
theorem j_fill_no (n : Nat) (m : Int) (A : Option Addr) (ca : Nat) (w : World) (h : ¬ FillOk n m) :
    Calls Tryd.prog 45 #[.slice A n ca, .int .i64 m] w (GivesE [] 6 w) := by
  unfold FillOk at h
  by_cases h1 : m < 1
  · have d1 : decide (m < 1) = true := decide_eq_true h1
    clear h
    go_enter Tryd.func45, Tryd.ntmps45
    go_wp2
    go_ret2
    exact ⟨_, rfl, sl_none _, Ext.refl w⟩
  have d1 : decide (m < 1) = false := decide_eq_false h1
  by_cases h2 : 256 < m
  · have d2 : decide (256 < m) = true := decide_eq_true h2
    clear h
    go_enter Tryd.func45, Tryd.ntmps45
    go_wp2
    go_ret2
    exact ⟨_, rfl, sl_none _, Ext.refl w⟩
  have d2 : decide (256 < m) = false := decide_eq_false h2
  have d3 : decide (m ≤ (n : Int)) = true := decide_eq_true (by omega)
  clear h
  go_enter Tryd.func45, Tryd.ntmps45
  go_wp2
  go_ret2
  exact ⟨_, rfl, sl_none _, Ext.refl w⟩

set_option maxHeartbeats 1600000 in
set_option maxRecDepth 100000 in
theorem j_fill (t : List Nat) (m : Nat) (A : Option Addr) (ca : Nat) (w : World) (hr : Rd w A t) (h : FillOk t.length (m : Int)) :
    Calls Tryd.prog 45 #[.slice A t.length ca, .int .i64 (m : Int)] w (GivesE (fil t m) 0 w) := by
  obtain ⟨h1, h2, h3⟩ := h
  have HFS := Lib.hid (fil_sm (m := m) hr.1 (by omega))
  have HFL := Lib.hid (fil_len t m)
  have HCO := Lib.hid (fun i (hi : t.length ≤ i) => Pol.co_out t i hi)
  have HFE := Lib.hid (show fil t m = tab m (fun i => if i = 0 then t.length else co t (i - 1)) from rfl)
  have HR := Lib.hid hr
  clear hr
  generalize hn : t.length = n at *
  have HN := Lib.hid hn
  clear hn
  have d1 : decide ((m : Int) < 1) = false := decide_eq_false (by omega)
  have d2 : decide (256 < (m : Int)) = false := decide_eq_false (by omega)
  have d3 : decide (m ≤ n) = false := decide_eq_false (by omega)
  have ew : IntKind.u8.wrap (n : Int) = (n : Int) := IntWalk.u8_in _ (by omega)
  have hmk := run_make_u8 m (by omega) w
  have hm0 : (0 : Int) < (m : Int) := by omega
  obtain ⟨X, hX, _, hXa⟩ := run_rest_u8 (some ⟨w.heap.size, 0, none⟩) m m 1 (by omega) (Nat.le_refl _)
  have hX' : ∀ W, (Instr.slice 23 (.slice (some ⟨w.heap.size, 0, none⟩) m m) (some (.int .i64 1)) none none).run Tryd.prog W = .ok (.slice X (m - 1) (m - 1)) W := hX
  obtain ⟨m1, hm1⟩ : ∃ m1, m - 1 = m1 := ⟨_, rfl⟩
  rw [hm1] at hX'
  have HM1 := Lib.hid hm1
  have HXA := Lib.hid (show 0 < n → X = some ⟨w.heap.size, 1, none⟩ from fun h => hXa _ _ (by omega) rfl)
  obtain ⟨wa, hwa⟩ : ∃ wa, w.alloc (.cells (bt m fun _ => 0) 5) = wa := ⟨_, rfl⟩
  have hb0 : Blk wa w.heap.size m (fun _ => 0) := hwa ▸ Blk.new w m _
  have hxa : Ext w wa := hwa ▸ (Ext.refl w).alloc _
  have hc0 := hb0.cell 0 (by omega)
  have hf0 := hb0.frozen 0
  have HB1 := Lib.hid (hb0.store 0 n)
  have HX1 := Lib.hid (hxa.setCell (p := ⟨w.heap.size, 0, none⟩) (Nat.le_refl _) (.int .u8 (n : Int)))
  rw [hwa] at hmk
  clear hX hXa hm1 hb0 hxa hwa
  go_enter Tryd.func45, Tryd.ntmps45
  go_wp2_with (with_reducible refine wpList_copy_at rfl (.tmp 27) (.tmp 28) rfl w.heap.size m 1 m1 m1 X _ rfl HB1.out A t n ca rfl HN.out (HR.out.ext HX1.out) HXA.out (by have := HM1.out; omega) (by have := HM1.out; omega) w HX1.out (Nat.le_refl _) ?_; intro w2 HB2 hx2)
  have HX2 := Lib.hid hx2
  clear hx2
  go_wp2
  go_ret2
  refine ⟨_, rfl, ⟨_, _, by rw [HFL.out]; rfl, by rw [HFL.out]; exact Nat.le_refl _, ?_⟩, HX2.out⟩
  have hb := HB2.out.congr (f' := fun i => if i = 0 then n else co t (i - 1)) (fun i _ => by
    unfold upd
    by_cases e : i = 0
    · subst e; rw [if_neg (by omega), if_pos rfl, if_pos rfl]
    · rw [if_neg e, if_neg e]
      by_cases h : i < 1 + n
      · rw [if_pos (by omega)]
      · rw [if_neg (by omega), HCO.out _ (by omega)])
  rw [HFE.out]
  refine hb.reads fun i _ => ?_
  have h := HFS.out i
  rw [HFE.out, co_tab] at h
  split at h
  · exact h
  · omega
end Go.Proofs.YtjifionpblpfoaaDoor

/-
  A byte; what the field's own sum does. Conditions: none beyond the kinds of the arguments.
-/
namespace Go.Proofs.YtjifionpblpfoaaDoor
open Go.RowKit

/-- A byte. -/
def U (n : Nat) : Value := .int .u8 (n : Int)

theorem add_any (x y : Int) (w : World) :
    Calls Tryd.prog 67 #[.int .u8 x, .int .u8 y] w fun e w' => e = .returned (.int .u8 (bits .xor .u8 x y)) ∧ w = w' := by
  go_enter Tryd.func67, Tryd.ntmps67
  go_wp2
  go_ret
  exact ⟨rfl, rfl⟩
theorem add_is (a b v : Nat) (ha : a < 256) (hb : b < 256) (h : a ^^^ b = v) (w : World) :
    Calls Tryd.prog 67 #[.int .u8 (a : Int), .int .u8 (b : Int)] w fun e w' => e = .returned (.int .u8 (v : Int)) ∧ w = w' := by
  have := add_any a b w
  rw [u8_xor_nat a b ha hb, h] at this
  exact this
end Go.Proofs.YtjifionpblpfoaaDoor

/-
  What sum, Seal and Pad of layer 6 do. Conditions: no more than 2^12 bytes.
-/
namespace Go.Proofs.YtjifionpblpfoaaDoor
open Go.RowKit
open Pol (co Sm)

/-- The first k sums, and 0 behind them. -/
def sk (t p : List Nat) (k i : Nat) : Nat := if i < k then co t i ^^^ co p i else 0
theorem sk_lt {t p : List Nat} (ht : Sm t) (hp : Sm p) (k i : Nat) : sk t p k i < 256 := by
  unfold sk
  split
  · exact Gf.xor_lt _ _ (ht i) (hp i)
  · omega
theorem sk_step (t p : List Nat) (k i : Nat) : upd (sk t p k) k (co t k ^^^ co p k) i = sk t p (k + 1) i := by
  unfold upd sk
  by_cases e : i = k
  · subst e; rw [if_pos rfl, if_pos (by omega)]
  · rw [if_neg e]
    by_cases h : i < k
    · rw [if_pos h, if_pos (by omega)]
    · rw [if_neg h, if_neg (by omega)]
theorem sk_all (t p : List Nat) (n : Nat) (hn : t.length = n) : tab n (sk t p n) = lx t p := by
  subst hn
  unfold lx tab
  refine List.map_congr_left fun i hi => ?_
  unfold sk
  rw [if_pos (List.mem_range.1 hi)]

set_option maxHeartbeats 800000 in
set_option maxRecDepth 100000 in
theorem j_sum (t p : List Nat) (A B : Option Addr) (ca cb : Nat) (w : World) (ha : Rd w A t) (hb : Rd w B p) (hl : t.length ≤ 4096) (he : t.length = p.length) :
    Calls Tryd.prog 60 #[.slice A t.length ca, .slice B p.length cb] w (GivesE (lx t p) 0 w) := by
  have HLL := Lib.hid (lx_len t p)
  rw [← he]
  generalize hna : t.length = n at *
  have HALL := Lib.hid (sk_all t p n hna)
  have HA := Lib.hid ha
  have HB := Lib.hid hb
  have HNA := Lib.hid hna
  have HNB := Lib.hid he.symm
  have hmk := fun W => run_make_u8 n (by omega) W
  have t0 : ((n : Int) != (n : Int)) = false := by simp
  clear ha hb hna he
  go_enter Tryd.func60, Tryd.ntmps60
  go_wp2
  clear hmk t0
  go_loopg [18] n (fun g s wx => ∃ j : Nat, j + g = n ∧ s = .int .i64 (j : Int) ∧ Blk wx w.heap.size n (sk t p j) ∧ Ext w wx)
  case atStart => exact ⟨0, by omega, rfl, (Blk.new w n _).congr (fun i _ => by unfold sk; rw [if_neg (by omega)]), (Ext.refl _).alloc _⟩
  case round =>
    obtain ⟨j, hjg, rfl, hblk, hx⟩ := hrel
    have HY := Lib.hid hx
    have HL := Lib.hid hblk
    clear hx hblk
    cases gk with
    | zero =>
      obtain rfl : j = n := by omega
      clear hjg
      have HR := Lib.hid (HALL.out ▸ HL.out.reads (fun i _ => sk_lt HA.out.1 HB.out.1 j i))
      go_wp2
      go_ret2
      exact ⟨_, rfl, ⟨_, _, by rw [HLL.out]; rfl, by rw [HLL.out]; exact Nat.le_refl _, HR.out⟩, HY.out⟩
    | succ g =>
      have hj : j < n := by omega
      have hjI : (j : Int) < (n : Int) := by omega
      obtain ⟨b1, o1, e1, hc1⟩ := (HA.out.ext HY.out).2 j (by rw [HNA.out]; exact hj)
      obtain ⟨b2, o2, e2, hc2⟩ := (HB.out.ext HY.out).2 j (by rw [HNB.out]; exact hj)
      subst e1; subst e2
      have hc3 := HL.out.cell j hj
      have hfz := HL.out.frozen j
      have HU := Lib.hid (((HL.out.drewN 1).store j (co t j ^^^ co p j)).congr (f' := sk t p (j + 1)) (fun i _ => sk_step t p j i))
      have HE := Lib.hid ((HY.out.drewN 1).setCell (p := ⟨w.heap.size, j, none⟩) (Nat.le_refl _) (.int .u8 ((co t j ^^^ co p j : Nat) : Int)))
      have HM := Lib.hid (fun W => (add_is (co t j) (co p j) _ (HA.out.1 j) (HB.out.1 j) rfl W).mono fun _ _ h => (⟨h.1, h.2.symm⟩ : _ ∧ _ = W))
      go_wp2
      go_still_tail 12, (by kernel_rfl)
      still_call (HM.out _)
      repeat still_step
      refine wpStill_nil ?_
      change wpList _ _ _ _ _ wr.drew
      go_wp2
      go_roundg g
      case measure => omega
      case rel => exact ⟨j + 1, by omega, by go_num, HU.out, HE.out⟩

theorem j_sum_no (t p : Nat) (A B : Option Addr) (ca cb : Nat) (w : World) (he : t ≠ p) :
    Calls Tryd.prog 60 #[.slice A t ca, .slice B p cb] w (GivesE [] 1 w) := by
  have t0 : ((t : Int) != (p : Int)) = true := by simp; omega
  clear he
  go_enter Tryd.func60, Tryd.ntmps60
  go_wp2
  go_ret2
  exact ⟨_, rfl, sl_none _, Ext.refl w⟩
theorem j_seal (l : List Nat) (n : Int) (x y : Value) (w : World) (h : Calls Tryd.prog 60 #[x, y] w (GivesE l n w)) :
    Calls Tryd.prog 41 #[x, y] w (GivesE l n w) := by
  have H := Lib.hid h
  clear h
  go_enter Tryd.func41, Tryd.ntmps41
  go_wp2_with fail
  refine H.out.mono ?_
  rintro e w1 ⟨v, rfl, hs, hx⟩
  have HS := Lib.hid hs
  have HX := Lib.hid hx
  clear hs hx
  go_wp2
  go_ret2
  exact ⟨_, rfl, HS.out, HX.out⟩
end Go.Proofs.YtjifionpblpfoaaDoor

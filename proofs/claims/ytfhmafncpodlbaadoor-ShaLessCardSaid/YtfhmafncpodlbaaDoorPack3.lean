/-
  Part 3 of the texts that the seat's proofs stand on; each part of it begins with its own sentence and conditions. Conditions: those that each theorem names.
-/
import Derived.Test.YtfhmafncpodlbaaDoorPack2
import Derived.Deep.MidRow
import Derived.Laws.Cover3
import Derived.Lib.Hide
import Derived.Lib.SliceRun
import Derived.Lib.BytesEntry
import Derived.Laws.LoneSync
import Derived.Laws.BytesString
import Derived.Test.YtfhmafncpodlbaaDoorRows
import Derived.LaidMore
import Derived.MakeChecks
import Derived.OpenShut
import Derived.Stop.Joined
import Derived.ProofKit

/-
  What through of layer 10 does: the state behind blocks. Conditions: whole blocks, no more than 2^20 bytes; the constants lie where they were laid.
-/
namespace Go.Proofs.YtfhmafncpodlbaaDoor
open Go.RowKit
open Pol (co Sm)

/-- What is behind the first k. -/
def dr (t : List Nat) (k : Nat) : List Nat := tab (t.length - k) (fun j => co t (k + j))
theorem dr_len (t : List Nat) (k : Nat) : (dr t k).length = t.length - k := tab_len _ _
theorem dr_at (t : List Nat) (k j : Nat) (h : k + j < t.length) : co (dr t k) j = co t (k + j) := by unfold dr; rw [co_tab, if_pos (by omega)]
theorem dr_ext {a b : List Nat} (hl : a.length = b.length) (h : ∀ i, i < a.length → co a i = co b i) : a = b := by
  apply List.ext_getElem hl
  intro i h1 h2
  have := h i h1
  unfold co at this
  rw [List.getElem?_eq_getElem h1, List.getElem?_eq_getElem h2] at this
  exact this
theorem dr_zero (t : List Nat) : dr t 0 = t := dr_ext (by rw [dr_len]; rfl) (fun i hi => by rw [dr_len] at hi; rw [dr_at t 0 i (by omega), Nat.zero_add])
theorem dr_more (t : List Nat) (k l : Nat) : tab ((dr t k).length - l) (fun j => co (dr t k) (l + j)) = dr t (k + l) := by
  refine dr_ext (by rw [tab_len, dr_len, dr_len]; omega) (fun i hi => ?_)
  rw [tab_len, dr_len] at hi
  rw [co_tab, if_pos (by rw [dr_len]; exact hi), dr_at t k (l + i) (by omega), dr_at t (k + l) i (by omega), Nat.add_assoc]
theorem wof_word (t : List Nat) (a : Nat) : wof (fun j => co t (a + j)) = fun i => word t (a + 4 * i) := by
  funext i
  unfold wof word
  simp only [Nat.add_assoc]
/-- Sixty-four bytes of a slice, as an array. -/
theorem range_of {w : World} {b o : Nat} {l : List Nat} (h : Rd w (some ⟨b, o, none⟩) l) (h64 : 64 ≤ l.length) : w.rangeAt b o (bt 64 (co l)).toList := by
  intro j v hv
  have hj : j < 64 := by
    have := (List.getElem?_eq_some_iff.1 hv).1
    simpa [bt_size] using this
  have e := bt_at 64 (co l) j hj
  generalize bt 64 (co l) = V at hv e
  obtain ⟨b', o', e1, hc⟩ := h.2 j (by omega)
  rw [← Array.getElem?_toList, hv] at e
  injection e1 with e1
  injection e1 with e2 e3
  subst e2; subst e3
  rw [hc, e]
theorem info_state (f : Nat → Nat) : (Tryd.prog.info? 39).map (·.size) = some (dt 8 f).size := by rw [dt_size]; kernel_rfl
theorem zero_state : (∀ w, (zeroValue 39).run Tryd.prog w = .ok (.agg (dt 8 fun _ => 0)) w) ∧ (Tryd.prog.info? 39).map (·.size) = some 8 := by
  rw [dt_zero]
  exact zero_of_info (by kernel_rfl)

theorem dr_co (t : List Nat) (k : Nat) : co (dr t k) = fun j => co t (k + j) := by
  funext j
  unfold dr
  rw [co_tab]
  by_cases h : j < t.length - k
  · rw [if_pos h]
  · rw [if_neg h]
    unfold co
    rw [List.getElem?_eq_none (by omega)]
    rfl
/-- Where through stands: the state behind g, the result. -/
structure ThrW (f : Nat → Nat) (g : Nat) (w W : World) : Prop where
  x : Ext w W
  s : WBlk 39 8 W g f
  r : WBlk 39 8 W (g + 1) (fun _ => 0)
theorem ThrW.start (f : Nat → Nat) (w : World) : ThrW f w.heap.size w ((w.alloc (.cells (dt 8 f) 39)).alloc (.cells (dt 8 fun _ => 0) 39)) := by
  have e1 : w.heap.size + 1 = (w.alloc (.cells (dt 8 f) 39)).heap.size := by simp
  refine ⟨((Ext.refl w).alloc _).alloc _, ?_, ?_⟩
  · exact (WBlk.new w f).ext ((Ext.refl _).alloc _)
  · rw [e1]
    exact WBlk.new _ _
theorem ThrW.ext {f : Nat → Nat} {g : Nat} {w W W' : World} (h : ThrW f g w W) (hx : Ext W W') : ThrW f g w W' := ⟨h.x.trans hx, h.s.ext hx, h.r.ext hx⟩
theorem ThrW.store {f : Nat → Nat} {g : Nat} {w W : World} (h : ThrW f g w W) (hg : w.heap.size = g) (j v : Nat) : ThrW (upd f j v) g w (W.setCell ⟨g, j, none⟩ (.int .u32 (v : Int))) :=
  ⟨h.x.setCell (by rw [hg]; exact Nat.le_refl _) _, h.s.store j v, (heap_setCell_other W ⟨g, j, none⟩ (g + 1) _ (by simp)).trans h.r⟩
theorem ThrW.congr {f f' : Nat → Nat} {g : Nat} {w W : World} (h : ThrW f g w W) (hf : ∀ i, i < 8 → f i = f' i) : ThrW f' g w W := ⟨h.x, h.s.congr hf, h.r⟩
theorem ThrW.drewN {f : Nat → Nat} {g : Nat} {w W : World} (h : ThrW f g w W) (q : Nat) : ThrW f g w (W.drewN q) := ⟨h.x.drewN q, h.s, h.r⟩
def AfterT (u w : World) : Prop := Ext u w

set_option maxHeartbeats 3200000 in
set_option maxRecDepth 100000 in
theorem sh_through (S t : List Nat) (A : Option Addr) (ca : Nat) (w : World) (hgl : GL w) (hS : W32 S) (hSl : S.length = 8) (hr : Rd w A t) (hc : t.length ≤ ca) (h64 : t.length % 64 = 0) (hl : t.length ≤ 1048576) :
    Calls Tryd.prog 20 #[.agg (dt 8 (co S)), .slice A t.length ca] w (Tells (.agg (dt 8 (co (hsh S KK t (t.length / 64))))) w) := by
  obtain ⟨g, hg⟩ : ∃ g, w.heap.size = g := ⟨_, rfl⟩
  have HG := Lib.hid hg
  have hst := ThrW.start (co S) w
  rw [hg] at hst
  have HST := Lib.hid hst
  have HGL := Lib.hid (fun W (h : Ext w W) => hgl.ext h)
  have HSM := Lib.hid hr.1
  have HR := Lib.hid hr
  obtain ⟨n, hn⟩ : ∃ n, t.length = n := ⟨_, rfl⟩
  have HN := Lib.hid hn
  obtain ⟨M, hM⟩ : ∃ M, n / 64 = M := ⟨_, rfl⟩
  rw [hn] at hc h64 hl ⊢
  rw [hM]
  have HM := Lib.hid (show n = 64 * M by omega)
  have HHL := Lib.hid (fun m => hsh_len S KK t hSl m)
  have HHW := Lib.hid (fun m => hsh_w32 S KK t hS m)
  have HH0 := Lib.hid (show hsh S KK t 0 = S from rfl)
  have HHS := Lib.hid (fun m => show hsh S KK t (m + 1) = blk KK (fun i => word t (64 * m + 4 * i)) (hsh S KK t m) from rfl)
  obtain ⟨V0, hV0⟩ : ∃ V, dt 8 (co S) = V := ⟨_, rfl⟩
  rw [hV0]
  generalize hsh S KK t = H at *
  have hz : dt 8 (fun _ => 0) = #[.int .u32 0, .int .u32 0, .int .u32 0, .int .u32 0, .int .u32 0, .int .u32 0, .int .u32 0, .int .u32 0] := rfl
  rw [hV0, hz] at HST
  have HD0 := Lib.hid (show Rd w A (dr t 0) from by rw [dr_zero]; exact hr)
  clear hgl hS hSl hr hn hst hM h64 hV0
  go_enter Tryd.func20, Tryd.ntmps20
  go_wp2_with fail
  generalize (w.alloc (Obj.cells V0 39)).alloc (Obj.cells #[.int .u32 0, .int .u32 0, .int .u32 0, .int .u32 0, .int .u32 0, .int .u32 0, .int .u32 0, .int .u32 0] 39) = W3 at HST ⊢
  clear hz hg
  go_loopg [1] M (fun gk s1 wx => ∃ (m a N c : Nat) (X : Option Addr), m + gk = M ∧ a = 64 * m ∧ N = n - a ∧ s1 = .slice X N c ∧ N ≤ c ∧ Rd w X (dr t a) ∧ ThrW (co (H m)) g w wx)
  case atStart => exact ⟨0, 0, n, ca, A, by omega, rfl, rfl, rfl, hc, HD0.out, by rw [HH0.out]; exact HST.out⟩
  case round =>
    obtain ⟨m, a, N, c, X, hmg, hma, hN, rfl, hNc, hrd, hw⟩ := hrel
    have HW := Lib.hid hw
    have HMG := Lib.hid hmg
    have HMA := Lib.hid hma
    have HRD := Lib.hid hrd
    clear hw hrd
    cases gk with
    | zero =>
      have hN0 : N = 0 := by have := HM.out; omega
      have hNI : decide (0 < (N : Int)) = false := decide_eq_false (by omega)
      have hmM : m = M := by omega
      rw [hmM] at HW
      clear hN hmg hma hNc
      have HIN := Lib.hid (info_state (co (H M)))
      have HSZ := Lib.hid (show (dt 8 fun _ => 0).size = (dt 8 (co (H M))).size from by rw [dt_size, dt_size])
      have HON := Lib.hid (dt_one 8 (co (H M)))
      have HG3 := Lib.hid (setRow_heap wr (g + 1) _ (dt 8 (co (H M))) _ _ HW.out.r)
      have HX3 := Lib.hid (HW.out.x.setRow (g := g + 1) (by rw [HG.out]; omega) (dt 8 (co (H M))))
      have hs := HW.out.s
      have hr := HW.out.r
      unfold WBlk at hs hr
      have HS0 := Lib.hid hs
      have HR0 := Lib.hid hr
      clear hs hr
      obtain ⟨V, hV⟩ : ∃ V, dt 8 (co (H M)) = V := ⟨_, rfl⟩
      have HVE := Lib.hid (show Value.agg V = Value.agg (dt 8 (co (H M))) from by rw [hV])
      rw [hV] at HIN HSZ HON HG3 HX3 HS0
      clear hV
      generalize dt 8 (fun _ => 0) = Z at HSZ HR0
      go_wp2_with (first | (with_reducible refine wpList_load_row rfl 39 (.tmp 2) rfl g rfl 39 V (0, 0) _ HS0.out Tryd.underlying39 rfl HIN.out ?_) | refine wpList_store_all rfl 39 (.tmp 4) (.tmp 31) rfl (g + 1) Z V rfl rfl HR0.out HIN.out HSZ.out HON.out ?_)
      exact ⟨rfl, .agg V, results_cell_row Tryd.results20 _ _ (g + 1) 39 V (0, 0) _ rfl HG3.out Tryd.underlying39 rfl HIN.out, by rw [HVE.out], HX3.out⟩
    | succ gh =>
      have hN64 : 64 ≤ N := by have := HM.out; omega
      have hNb : N ≤ 1048576 := by omega
      have hNI : decide (0 < (N : Int)) = true := decide_eq_true (by omega)
      obtain ⟨X2, hx2, hxr, _⟩ := run_rest_u8 X N c 64 hN64 hNc
      rw [show ((64 : Nat) : Int) = 64 from rfl] at hx2
      have HA := Lib.hid (fun W => run_arrayAt (P := Tryd.prog) W 55 5 64 X N c Tryd.underlying55 hN64)
      have hB : Sm (dr t a) := HRD.out.1
      obtain ⟨G, hG⟩ : ∃ G, H m = G := ⟨_, rfl⟩
      have HGW := Lib.hid (show W32 G from by rw [← hG]; exact HHW.out m)
      have HGL8 := Lib.hid (show G.length = 8 from by rw [← hG]; exact HHL.out m)
      rw [hG] at HW
      have HGE := Lib.hid hG
      obtain ⟨bx, ox, eX, _⟩ := HRD.out.2 0 (by rw [dr_len, HN.out, ← hN]; omega)
      subst eX
      have HLD := Lib.hid (fun W (h : AfterT wr W) => run_loadAt_mid (P := Tryd.prog) W bx ox 55 (bt 64 (co (dr t a))).toList (.array 64 5) (range_of (HRD.out.ext (HW.out.x.trans h)) (by rw [dr_len, HN.out, ← hN]; exact hN64)) Tryd.underlying55 rfl (by rw [Array.length_toList]; exact info_block _))
      have HLS := Lib.hid (fun W (h : AfterT wr W) => run_load_all W g 39 (dt 8 (co G)) 8 38 Tryd.underlying39 ((HW.out.ext h).s) (info_state _))
      have HSC := Lib.hid (fun W => sh_schedule (co (dr t a)) W (fun i => hB i))
      have HMX := Lib.hid (fun W (h : AfterT wr W) => sh_mix G (wl (wof (co (dr t a))) 64) W (HGL.out W (HW.out.x.trans h)) HGW.out (wl_w32 _ (wof_lt (fun i => hB i)) 64))
      obtain ⟨WL, hWL⟩ : ∃ l, wl (wof (co (dr t a))) 64 = l := ⟨_, rfl⟩
      rw [hWL] at HSC HMX
      obtain ⟨R, hR⟩ : ∃ l, rds KK WL G 64 = l := ⟨_, rfl⟩
      rw [hR] at HMX
      have HWLE := Lib.hid (fun (_ : Unit) => hWL)
      have HRE := Lib.hid (fun (_ : Unit) => hR)
      simp only [Array.toArray_toList] at HLD
      obtain ⟨VB, hVB⟩ : ∃ V, bt 64 (co (dr t a)) = V := ⟨_, rfl⟩
      obtain ⟨VL, hVL⟩ : ∃ V, dt 64 (co WL) = V := ⟨_, rfl⟩
      obtain ⟨VG, hVG⟩ : ∃ V, dt 8 (co G) = V := ⟨_, rfl⟩
      have HIR := Lib.hid (info_state (co R))
      have HSR := Lib.hid (show (dt 8 fun _ => 0).size = (dt 8 (co R)).size from by rw [dt_size, dt_size])
      have HOR := Lib.hid (dt_one 8 (co R))
      have HZL := Lib.hid (show dt 8 (fun _ => 0) = #[.int .u32 0, .int .u32 0, .int .u32 0, .int .u32 0, .int .u32 0, .int .u32 0, .int .u32 0, .int .u32 0] from rfl)
      have HVR := Lib.hid (fun (i : Nat) (hi : i < 8) => show ∀ W, (Instr.index 39 (.agg (dt 8 (co R))) (.int .i64 (i : Int))).run Tryd.prog W = .ok (.int .u32 ((co R i : Nat) : Int)) W from fun W => idx_arr Tryd.underlying39 (by kernel_rfl) (by kernel_rfl) ⟨_, rfl⟩ _ i _ hi (dt_at 8 _ i hi) W)
      obtain ⟨VR, hVR⟩ : ∃ V, dt 8 (co R) = V := ⟨_, rfl⟩
      rw [hVB] at HLD HSC
      rw [hVL] at HSC HMX
      rw [hVG] at HLS HMX
      rw [hVR] at HMX HIR HSR HOR HVR
      have HNE := Lib.hid hN
      have HXR := Lib.hid hxr
      clear hVB hVL hVG hVR hWL hR hG hB hN hmg hma hxr
      go_wp2
      refine wp_region_plan (AfterT wr) [0, 1, 2, 3, 4, 5, 6] (.yes 0 (.yes 1 (.yes 2 (.yes 3 (.two 4 (.two 5 (.one 6 (.one 7 .done)) 6 (.one 5 (.one 7 .done))) 6 (.one 4 (.one 5 (.one 7 .done)))))))) (by kernel_rfl) (fun c a a' w e h => ⟨e ▸ h.1, h.2⟩) (by kernel_rfl) ((Ext.refl wr).drew) ?_
      refine plan_load rfl 39 (.tmp 2) rfl (.agg VG) (by first | rfl | go_simp) (fun W hW => HLS.out W hW) ?_
      refine plan_yes rfl (fun K hK => ?_); go_simp; refine ⟨_, fun _ _ => rfl, hK _ ?_⟩; clear hK K
      refine plan_toArray rfl 55 (.tmp 14) rfl (.pointer (some ⟨bx, ox, none⟩)) (by first | rfl | go_simp) (fun W hW => HA.out W) ?_
      refine plan_load rfl 55 (.tmp 15) rfl (.agg VB) (by first | rfl | go_simp) (fun W hW => HLD.out W hW) ?_
      refine plan_two rfl rfl (fun K hK => ?_) (fun K hK => ?_)
      · go_wp2_with fail
        refine (HSC.out _).mono ?_
        rintro e v4 ⟨rfl, hx4⟩
        have HX4 := Lib.hid (show AfterT wr v4 from Ext.trans ((Ext.refl wr).drew) hx4)
        clear hx4
        go_wp2
        refine ⟨fun _ => HX4.out, ?_⟩
        refine plan_two rfl rfl (fun K hK => ?_) (fun K hK => ?_)
        · go_wp2_with fail
          refine (HMX.out _ HX4.out).mono ?_
          rintro e v5 ⟨rfl, hx5⟩
          have HX5 := Lib.hid (show AfterT wr v5 from Ext.trans HX4.out hx5)
          clear hx5
          go_wp2
          refine ⟨fun _ => HX5.out, ?_⟩
          refine plan_one rfl (fun K hK => ?_)
          go_wp2
          have HX6 := Lib.hid (show AfterT wr (World.alloc v5 (.cells (dt 8 fun _ => 0) 39)) from Ext.alloc HX5.out _)
          have HB6 := Lib.hid (WBlk.new (T := 39) (n := 8) v5 (fun _ => 0))
          have HGX := Lib.hid (show wr.heap.size ≤ (v5).heap.size from Ext.size HX5.out)
          rw [HZL.out] at HX6 HB6
          refine ⟨fun _ => HX6.out, ?_⟩
          generalize hgx : (v5).heap.size = gx at HB6 HGX ⊢
          generalize World.alloc v5 _ = v6 at HX6 HB6 ⊢
          clear hgx
          refine plan_one rfl (fun K hK => ?_)
          have HG7 := Lib.hid (setRow_heap _ gx _ VR _ _ HB6.out)
          have HX7 := Lib.hid (Ext.setRow HX6.out HGX.out VR)
          have hb0 := HB6.out
          unfold WBlk at hb0
          have HB0 := Lib.hid hb0
          clear hb0
          go_wp2_with (with_reducible refine wpList_store_all rfl 39 (.tmp 5) (.tmp 18) rfl gx (dt 8 fun _ => 0) VR rfl rfl HB0.out HIR.out HSR.out HOR.out ?_)
          refine ⟨fun h => absurd h (by decide), ?_⟩
          unfold wpPlan
          obtain ⟨wz, hwz⟩ : ∃ q, World.setRow v6 gx VR = q := ⟨_, rfl⟩
          rw [hwz] at HG7 HX7 ⊢
          clear hwz
          have HWZ := Lib.hid (HW.out.ext HX7.out)
          go_wp2_with (with_reducible refine wpList_load_row rfl 39 (.tmp 5) rfl gx rfl 39 VR (0, 0) _ HG7.out Tryd.underlying39 rfl HIR.out ?_)
          go_loopg [20] 8 (fun gj s20 wx => ∃ j : Nat, j + gj = 8 ∧ s20 = .int .i64 (j : Int) ∧ ThrW (fun k => if k < j then sumw G R k else co G k) g w wx)
          case atStart => exact ⟨0, by omega, rfl, HWZ.out.congr (fun k _ => rfl)⟩
          case round =>
            obtain ⟨j, hjg, rfl, hj⟩ := hrel
            cases gk with
            | zero =>
              obtain rfl : j = 8 := by omega
              have HJ := Lib.hid hj
              clear hj hjg
              have HN2 := Lib.hid (HJ.out.congr (f' := co (H (m + 1))) (fun k hk => by
                rw [if_pos hk, HHS.out m, HGE.out, ← HMA.out]
                unfold blk
                rw [co_map _ _ _ (by rw [List.length_range]; exact hk), show co (List.range 8) k = k from by unfold co; rw [List.getElem?_range hk]; rfl, ← HRE.out (), ← HWLE.out (), dr_co, wof_word]))
              have HRX := Lib.hid (show Rd w X2 (dr t (a + 64)) from by
                have h := HXR.out w _ HRD.out (by rw [dr_len, HN.out, HNE.out])
                have e := dr_more t a 64
                rw [dr_len, HN.out, ← HNE.out] at e
                rw [e] at h
                exact h)
              go_wp2
              go_roundg gh
              case measure => exact Nat.lt_succ_self _
              case rel => exact ⟨m + 1, a + 64, N - 64, c - 64, X2, by have := HMG.out; omega, by have := HMA.out; omega, by have := HNE.out; omega, rfl, by omega, HRX.out, HN2.out⟩
            | succ gk =>
              have hj8 : j < 8 := by omega
              have hjI : (j : Int) < 8 := by omega
              have HJG := Lib.hid hjg
              have hcl := hj.s.cell j hj8
              have hfz := hj.s.frozen j
              rw [if_neg (Nat.lt_irrefl j)] at hcl
              have hix := HVR.out j hj8
              obtain ⟨z, hz⟩ : ∃ z, sumw G R j = z := ⟨_, rfl⟩
              have HU := Lib.hid (fun (_ : Unit) => hz)
              unfold sumw at hz
              have bG := HGW.out.at j
              generalize co G j = x at hcl hz bG
              generalize co R j = y at hix hz
              have HJ := Lib.hid hj
              clear hj hjg
              have hsum : IntKind.u32.wrap ((x : Int) + (y : Int)) = (z : Int) := by
                rw [← hz]
                rw [IntKind.wrap_u32]
                omega
              have HNX := Lib.hid ((HJ.out.store HG.out j z).congr (f' := fun k => if k < j + 1 then sumw G R k else co G k) (fun k _ => by
                unfold upd
                show (if k = j then z else if k < j then sumw G R k else co G k) = if k < j + 1 then sumw G R k else co G k
                by_cases e : k = j
                · subst e; rw [if_pos rfl, if_pos (Nat.lt_succ_self _), HU.out ()]
                · rw [if_neg e]
                  by_cases h : k < j
                  · rw [if_pos h, if_pos (by omega)]
                  · rw [if_neg h, if_neg (by omega)]))
              go_wp2
              go_roundg gk
              case measure => exact Nat.lt_succ_self _
              case rel => exact ⟨j + 1, by have := HJG.out; omega, by go_num, HNX.out⟩
        · go_wp2
          have HX6 := Lib.hid (show AfterT wr (World.alloc v4 (.cells (dt 8 fun _ => 0) 39)) from Ext.alloc HX4.out _)
          have HB6 := Lib.hid (WBlk.new (T := 39) (n := 8) v4 (fun _ => 0))
          have HGX := Lib.hid (show wr.heap.size ≤ (v4).heap.size from Ext.size HX4.out)
          rw [HZL.out] at HX6 HB6
          refine ⟨fun _ => HX6.out, ?_⟩
          generalize hgx : (v4).heap.size = gx at HB6 HGX ⊢
          generalize World.alloc v4 _ = v6 at HX6 HB6 ⊢
          clear hgx
          refine plan_one rfl (fun K hK => ?_)
          go_wp2_with fail
          refine (HMX.out _ HX6.out).mono ?_
          rintro e v5 ⟨rfl, hx5⟩
          have HX5 := Lib.hid (show AfterT wr v5 from Ext.trans HX6.out hx5)
          have HB5 := Lib.hid (WBlk.ext HB6.out hx5)
          clear hx5
          go_wp2
          refine ⟨fun _ => HX5.out, ?_⟩
          refine plan_one rfl (fun K hK => ?_)
          have HG7 := Lib.hid (setRow_heap _ gx _ VR _ _ HB5.out)
          have HX7 := Lib.hid (Ext.setRow HX5.out HGX.out VR)
          have hb0 := HB5.out
          unfold WBlk at hb0
          have HB0 := Lib.hid hb0
          clear hb0
          go_wp2_with (with_reducible refine wpList_store_all rfl 39 (.tmp 5) (.tmp 18) rfl gx (dt 8 fun _ => 0) VR rfl rfl HB0.out HIR.out HSR.out HOR.out ?_)
          refine ⟨fun h => absurd h (by decide), ?_⟩
          unfold wpPlan
          obtain ⟨wz, hwz⟩ : ∃ q, World.setRow v5 gx VR = q := ⟨_, rfl⟩
          rw [hwz] at HG7 HX7 ⊢
          clear hwz
          have HWZ := Lib.hid (HW.out.ext HX7.out)
          go_wp2_with (with_reducible refine wpList_load_row rfl 39 (.tmp 5) rfl gx rfl 39 VR (0, 0) _ HG7.out Tryd.underlying39 rfl HIR.out ?_)
          go_loopg [20] 8 (fun gj s20 wx => ∃ j : Nat, j + gj = 8 ∧ s20 = .int .i64 (j : Int) ∧ ThrW (fun k => if k < j then sumw G R k else co G k) g w wx)
          case atStart => exact ⟨0, by omega, rfl, HWZ.out.congr (fun k _ => rfl)⟩
          case round =>
            obtain ⟨j, hjg, rfl, hj⟩ := hrel
            cases gk with
            | zero =>
              obtain rfl : j = 8 := by omega
              have HJ := Lib.hid hj
              clear hj hjg
              have HN2 := Lib.hid (HJ.out.congr (f' := co (H (m + 1))) (fun k hk => by
                rw [if_pos hk, HHS.out m, HGE.out, ← HMA.out]
                unfold blk
                rw [co_map _ _ _ (by rw [List.length_range]; exact hk), show co (List.range 8) k = k from by unfold co; rw [List.getElem?_range hk]; rfl, ← HRE.out (), ← HWLE.out (), dr_co, wof_word]))
              have HRX := Lib.hid (show Rd w X2 (dr t (a + 64)) from by
                have h := HXR.out w _ HRD.out (by rw [dr_len, HN.out, HNE.out])
                have e := dr_more t a 64
                rw [dr_len, HN.out, ← HNE.out] at e
                rw [e] at h
                exact h)
              go_wp2
              go_roundg gh
              case measure => exact Nat.lt_succ_self _
              case rel => exact ⟨m + 1, a + 64, N - 64, c - 64, X2, by have := HMG.out; omega, by have := HMA.out; omega, by have := HNE.out; omega, rfl, by omega, HRX.out, HN2.out⟩
            | succ gk =>
              have hj8 : j < 8 := by omega
              have hjI : (j : Int) < 8 := by omega
              have HJG := Lib.hid hjg
              have hcl := hj.s.cell j hj8
              have hfz := hj.s.frozen j
              rw [if_neg (Nat.lt_irrefl j)] at hcl
              have hix := HVR.out j hj8
              obtain ⟨z, hz⟩ : ∃ z, sumw G R j = z := ⟨_, rfl⟩
              have HU := Lib.hid (fun (_ : Unit) => hz)
              unfold sumw at hz
              have bG := HGW.out.at j
              generalize co G j = x at hcl hz bG
              generalize co R j = y at hix hz
              have HJ := Lib.hid hj
              clear hj hjg
              have hsum : IntKind.u32.wrap ((x : Int) + (y : Int)) = (z : Int) := by
                rw [← hz]
                rw [IntKind.wrap_u32]
                omega
              have HNX := Lib.hid ((HJ.out.store HG.out j z).congr (f' := fun k => if k < j + 1 then sumw G R k else co G k) (fun k _ => by
                unfold upd
                show (if k = j then z else if k < j then sumw G R k else co G k) = if k < j + 1 then sumw G R k else co G k
                by_cases e : k = j
                · subst e; rw [if_pos rfl, if_pos (Nat.lt_succ_self _), HU.out ()]
                · rw [if_neg e]
                  by_cases h : k < j
                  · rw [if_pos h, if_pos (by omega)]
                  · rw [if_neg h, if_neg (by omega)]))
              go_wp2
              go_roundg gk
              case measure => exact Nat.lt_succ_self _
              case rel => exact ⟨j + 1, by have := HJG.out; omega, by go_num, HNX.out⟩
      · go_wp2
        have HX6 := Lib.hid (show AfterT wr (World.drew (World.alloc wr (.cells (dt 8 fun _ => 0) 39))) from (Ext.alloc (Ext.refl wr) _).drew)
        have HB6 := Lib.hid (show WBlk 39 8 (World.drew (World.alloc wr (.cells (dt 8 fun _ => 0) 39))) wr.heap.size (fun _ => 0) from WBlk.new (T := 39) (n := 8) wr (fun _ => 0))
        rw [HZL.out] at HX6 HB6
        refine ⟨fun _ => HX6.out, ?_⟩
        generalize hgx : wr.heap.size = gx at HB6 ⊢
        have HGX := Lib.hid (Nat.le_of_eq hgx)
        generalize (World.alloc wr _).drew = v6 at HX6 HB6 ⊢
        clear hgx
        refine plan_one rfl (fun K hK => ?_)
        go_wp2_with fail
        refine (HSC.out _).mono ?_
        rintro e v4 ⟨rfl, hx4⟩
        have HX4 := Lib.hid (show AfterT wr v4 from Ext.trans HX6.out hx4)
        have HB4 := Lib.hid (WBlk.ext HB6.out hx4)
        clear hx4
        go_wp2
        refine ⟨fun _ => HX4.out, ?_⟩
        refine plan_one rfl (fun K hK => ?_)
        go_wp2_with fail
        refine (HMX.out _ HX4.out).mono ?_
        rintro e v5 ⟨rfl, hx5⟩
        have HX5 := Lib.hid (show AfterT wr v5 from Ext.trans HX4.out hx5)
        have HB5 := Lib.hid (WBlk.ext HB4.out hx5)
        clear hx5
        go_wp2
        refine ⟨fun _ => HX5.out, ?_⟩
        refine plan_one rfl (fun K hK => ?_)
        have HG7 := Lib.hid (setRow_heap _ gx _ VR _ _ HB5.out)
        have HX7 := Lib.hid (Ext.setRow HX5.out HGX.out VR)
        have hb0 := HB5.out
        unfold WBlk at hb0
        have HB0 := Lib.hid hb0
        clear hb0
        go_wp2_with (with_reducible refine wpList_store_all rfl 39 (.tmp 5) (.tmp 18) rfl gx (dt 8 fun _ => 0) VR rfl rfl HB0.out HIR.out HSR.out HOR.out ?_)
        refine ⟨fun h => absurd h (by decide), ?_⟩
        unfold wpPlan
        obtain ⟨wz, hwz⟩ : ∃ q, World.setRow v5 gx VR = q := ⟨_, rfl⟩
        rw [hwz] at HG7 HX7 ⊢
        clear hwz
        have HWZ := Lib.hid (HW.out.ext HX7.out)
        go_wp2_with (with_reducible refine wpList_load_row rfl 39 (.tmp 5) rfl gx rfl 39 VR (0, 0) _ HG7.out Tryd.underlying39 rfl HIR.out ?_)
        go_loopg [20] 8 (fun gj s20 wx => ∃ j : Nat, j + gj = 8 ∧ s20 = .int .i64 (j : Int) ∧ ThrW (fun k => if k < j then sumw G R k else co G k) g w wx)
        case atStart => exact ⟨0, by omega, rfl, HWZ.out.congr (fun k _ => rfl)⟩
        case round =>
          obtain ⟨j, hjg, rfl, hj⟩ := hrel
          cases gk with
          | zero =>
            obtain rfl : j = 8 := by omega
            have HJ := Lib.hid hj
            clear hj hjg
            have HN2 := Lib.hid (HJ.out.congr (f' := co (H (m + 1))) (fun k hk => by
              rw [if_pos hk, HHS.out m, HGE.out, ← HMA.out]
              unfold blk
              rw [co_map _ _ _ (by rw [List.length_range]; exact hk), show co (List.range 8) k = k from by unfold co; rw [List.getElem?_range hk]; rfl, ← HRE.out (), ← HWLE.out (), dr_co, wof_word]))
            have HRX := Lib.hid (show Rd w X2 (dr t (a + 64)) from by
              have h := HXR.out w _ HRD.out (by rw [dr_len, HN.out, HNE.out])
              have e := dr_more t a 64
              rw [dr_len, HN.out, ← HNE.out] at e
              rw [e] at h
              exact h)
            go_wp2
            go_roundg gh
            case measure => exact Nat.lt_succ_self _
            case rel => exact ⟨m + 1, a + 64, N - 64, c - 64, X2, by have := HMG.out; omega, by have := HMA.out; omega, by have := HNE.out; omega, rfl, by omega, HRX.out, HN2.out⟩
          | succ gk =>
            have hj8 : j < 8 := by omega
            have hjI : (j : Int) < 8 := by omega
            have HJG := Lib.hid hjg
            have hcl := hj.s.cell j hj8
            have hfz := hj.s.frozen j
            rw [if_neg (Nat.lt_irrefl j)] at hcl
            have hix := HVR.out j hj8
            obtain ⟨z, hz⟩ : ∃ z, sumw G R j = z := ⟨_, rfl⟩
            have HU := Lib.hid (fun (_ : Unit) => hz)
            unfold sumw at hz
            have bG := HGW.out.at j
            generalize co G j = x at hcl hz bG
            generalize co R j = y at hix hz
            have HJ := Lib.hid hj
            clear hj hjg
            have hsum : IntKind.u32.wrap ((x : Int) + (y : Int)) = (z : Int) := by
              rw [← hz]
              rw [IntKind.wrap_u32]
              omega
            have HNX := Lib.hid ((HJ.out.store HG.out j z).congr (f' := fun k => if k < j + 1 then sumw G R k else co G k) (fun k _ => by
              unfold upd
              show (if k = j then z else if k < j then sumw G R k else co G k) = if k < j + 1 then sumw G R k else co G k
              by_cases e : k = j
              · subst e; rw [if_pos rfl, if_pos (Nat.lt_succ_self _), HU.out ()]
              · rw [if_neg e]
                by_cases h : k < j
                · rw [if_pos h, if_pos (by omega)]
                · rw [if_neg h, if_neg (by omega)]))
            go_wp2
            go_roundg gk
            case measure => exact Nat.lt_succ_self _
            case rel => exact ⟨j + 1, by have := HJG.out; omega, by go_num, HNX.out⟩
end Go.Proofs.YtfhmafncpodlbaaDoor

/-
  What bytes.Clone does. Conditions: no more than 2^16 bytes.
-/
namespace Go.Proofs.YtfhmafncpodlbaaDoor
open Go.RowKit
open Pol (co Sm)

/-- Bytes of a call's own that read as these. -/
def CloneS (t : List Nat) (w : World) (e : Ending) (w' : World) : Prop := Ext w w' ∧ ∃ v, e = .returned v ∧ Mine w' w.heap.size v t
set_option maxHeartbeats 800000 in
set_option maxRecDepth 100000 in
theorem cr_clone (t : List Nat) (A : Option Addr) (c : Nat) (w : World) (hr : Rd w A t) (hl : t.length ≤ 65536) : Calls Tryd.prog 31 #[.slice A t.length c] w (CloneS t w) := by
  unfold CloneS
  have HR := Lib.hid hr
  obtain ⟨n, hn⟩ : ∃ n, t.length = n := ⟨_, rfl⟩
  have HN := Lib.hid hn
  rw [hn] at hl ⊢
  have qn : ∀ (W : World) (B : Option Addr) (n c : Nat), (binOp .eql 22 (.slice B n c) (.slice none 0 0)).run Tryd.prog W = .ok (.bool B.isNone) W := fun W B n c => Lib.run_eql_slice_nil W _ _ B n c 0 0 Tryd.underlying22
  cases A with
  | none =>
    have ht : t = [] := by
      rcases Nat.eq_zero_or_pos t.length with h | h
      · exact List.eq_nil_of_length_eq_zero h
      · obtain ⟨_, _, e, _⟩ := hr.2 0 h; cases e
    have HT := Lib.hid ht
    clear hr hn ht
    go_enter Tryd.func31, Tryd.ntmps31
    go_wp2
    skip
    go_ret
    exact ⟨Ext.refl _, _, rfl, by rw [HT.out]; exact Mine.nil _ _⟩
  | some a =>
    have hx := (Ext.refl w).alloc (.cells #[] 5)
    have HX := Lib.hid hx
    have HM := Lib.hid (mine_empty w)
    clear hr hn hx
    go_enter Tryd.func31, Tryd.ntmps31
    go_wp2_with (at_builtin; refine wpList_append_rd rfl (.tmp 5) (.tmp 6) rfl w.heap.size (.slice (some ⟨w.heap.size, 0, none⟩) 0 0) [] t rfl HM.out (some a) n c rfl HN.out (HR.out.ext HX.out) (by rw [HN.out]; simp; omega) HX.out.size ?_; intro v' w3 hown' hg' hat'; rw [List.nil_append] at hown'; have HM2 := Lib.hid hown'; have HX2 := Lib.hid (HX.out.more hg' (fun k e => (HM.out.block k e).1)); clear hown' hg' hat')
    go_ret
    exact ⟨HX2.out, _, rfl, HM2.out⟩
end Go.Proofs.YtfhmafncpodlbaaDoor

/-
  What ending of layer 10 does: the bytes behind the last whole block, filled up. Conditions: no more than 2^20 bytes in all; fewer than 64 are left.
-/
namespace Go.Proofs.YtfhmafncpodlbaaDoor
open Go.RowKit
open Pol (co Sm)

/-- What stands behind an input of n bytes, of which r are left. -/
def endb (r : List Nat) (n : Nat) : List Nat := r ++ [128] ++ List.replicate (padz n) 0 ++ (List.range 8).map (len8 n)
theorem padz_mod (r n : Nat) (h : r = n % 64) : padz r = padz n := by
  subst h
  unfold padz
  omega
theorem endb_len (r : List Nat) (n : Nat) : (endb r n).length = r.length + 1 + padz n + 8 := by
  unfold endb
  simp only [List.length_append, List.length_singleton, List.length_replicate, List.length_map, List.length_range]
theorem endb_padded (t : List Nat) (k : Nat) : t.take k ++ endb (t.drop k) t.length = padded t := by
  unfold endb padded
  simp only [← List.append_assoc, List.take_append_drop]
theorem endb_sm {r : List Nat} (h : Sm r) (n : Nat) : Sm (endb r n) := by
  unfold endb
  refine sm_app (sm_app (sm_app h (Sm.cons (by omega) Sm.nil)) (Pol.co_lt_of fun x hx => by rw [(List.mem_replicate.1 hx).2]; omega)) (Pol.co_lt_of fun x hx => ?_)
  obtain ⟨q, _, rfl⟩ := List.mem_map.1 hx
  exact Nat.mod_lt _ (by decide)

set_option maxHeartbeats 1600000 in
set_option maxRecDepth 100000 in
theorem sh_ending (b : List Nat) (A : Option Addr) (ca N : Nat) (w : World) (hr : Rd w A b) (h64 : b.length = N % 64) (hN : N ≤ 1048576) :
    Calls Tryd.prog 21 #[.slice A b.length ca, .int .i64 (N : Int)] w (Gives (endb b N) w) := by
  obtain ⟨base, hbase⟩ : ∃ g, w.heap.size = g := ⟨_, rfl⟩
  have HB := Lib.hid hbase
  have HCL := Lib.hid (cr_clone b A ca w hr (by omega))
  have HE8 := Lib.hid (endb_sm hr.1 N)
  obtain ⟨n, hn⟩ : ∃ n, b.length = n := ⟨_, rfl⟩
  have HN := Lib.hid hn
  have HR := Lib.hid hr.1
  rw [hn] at h64 HCL ⊢
  have hn64 : n < 64 := by omega
  have HNM := Lib.hid h64
  have hpm := padz_mod n N h64
  clear hr hn h64 hbase
  go_enter Tryd.func21, Tryd.ntmps21
  go_wp2_with fail
  refine (HCL.out).mono ?_
  rintro e wc ⟨hxc, v7, rfl, hmc⟩
  rw [HB.out] at hmc
  have HX7 := Lib.hid hxc
  have HM7 := Lib.hid hmc
  clear hxc hmc
  go_wp2_with (at_builtin; refine wpList_append_rd rfl (.tmp 9) (.tmp 10) rfl base v7 b [128] rfl (mine_ext HM7.out ((Ext.refl _).alloc _)) (some ⟨wc.heap.size, 0, none⟩) 1 1 rfl rfl (rd_one wc 128 (by omega)) (by rw [HN.out]; simp; omega) (by have := HX7.out.size; have := HB.out; simp; omega) ?_; intro v8 w8 hown8 hg8 hat8; have HX8 := Lib.hid ((HX7.out.alloc (.cells #[.int .u8 128] 5)).more hg8 (fun q hq => by rw [HB.out]; exact (HM7.out.block q hq).1)); have HM8 := Lib.hid hown8; clear hown8 hg8 hat8)
  have HS8 := Lib.hid (show Sm (b ++ [128]) from sm_app HR.out (Sm.cons (by omega) Sm.nil))
  obtain ⟨pz, hpz⟩ : ∃ pz, padz n = pz := ⟨_, rfl⟩
  have hpz64 : pz < 64 := by rw [← hpz]; unfold padz; omega
  have HPZ := Lib.hid (fun j (h : j ≤ pz) => show (n + 1 + j) % 64 = 56 ↔ j = pz from by rw [← hpz] at h ⊢; exact padz_stop n j h)
  have HZP := Lib.hid (fun (_ : Unit) => show padz N = pz from by rw [← hpm, hpz])
  have HLZ := Lib.hid (fun j => show (b ++ [128] ++ List.replicate j 0).length = n + 1 + j from by simp [HN.out]; omega)
  have HZS := Lib.hid (fun j => show b ++ [128] ++ List.replicate (j + 1) 0 = b ++ [128] ++ List.replicate j 0 ++ [0] from by rw [List.replicate_succ', ← List.append_assoc])
  have HSZ := Lib.hid (fun j => show Sm (b ++ [128] ++ List.replicate j 0) from sm_app HS8.out (Pol.co_lt_of fun x hx => by rw [(List.mem_replicate.1 hx).2]; omega))
  have HM8' := Lib.hid (show Mine w8 base v8 (b ++ [128] ++ List.replicate 0 0) from by rw [List.replicate_zero, List.append_nil]; exact HM8.out)
  clear hpz hpm
  go_loopg [5] pz (fun gk s5 wx => ∃ j : Nat, j + gk = pz ∧ Mine wx base s5 (b ++ [128] ++ List.replicate j 0) ∧ Ext w wx)
  case atStart => exact ⟨0, by omega, HM8'.out, HX8.out⟩
  case round =>
    obtain ⟨j, hjg, hm, hx⟩ := hrel
    have HM := Lib.hid hm
    have HXX := Lib.hid hx
    obtain ⟨B7, c7, rfl, hc7, _⟩ := hm.slice (HSZ.out j)
    rw [HLZ.out] at hc7 HM ⊢
    have hs7 := hx.size
    rw [HB.out] at hs7
    have HJG := Lib.hid hjg
    clear hm hx
    obtain ⟨L, hL⟩ : ∃ L, n + 1 + j = L := ⟨_, rfl⟩
    have HL := Lib.hid hL
    have hz := HPZ.out j (by omega)
    rw [hL] at hc7 HM hz ⊢
    have hLb : L < 1048576 := by omega
    have em : (L : Int).tmod 64 = ((L % 64 : Nat) : Int) := by rw [Int.tmod_eq_emod_of_nonneg (by omega)]; omega
    clear hL
    cases gk with
    | zero =>
      obtain rfl : j = pz := by omega
      have hz' : L % 64 = 56 := hz.2 rfl
      have em' : (L : Int) % 64 = 56 := by omega
      clear hz hjg em hz'
      have ew : IntKind.u64.wrap (N : Int) = (N : Int) := by rw [IntKind.wrap_u64]; omega
      have ew8 : IntKind.u64.wrap (8 * (N : Int)) = (N : Int) * 8 := by rw [IntKind.wrap_u64]; omega
      go_wp2_with fail
      rw [← HZP.out ()] at HM
      have HMT := Lib.hid (show Mine wr base (.slice B7 L c7) (b ++ [128] ++ List.replicate (padz N) 0 ++ (List.range 0).map (len8 N)) from by rw [List.range_zero, List.map_nil, List.append_nil]; exact HM.out)
      have HXT := HXX
      have HST := Lib.hid (fun j => show Sm (b ++ [128] ++ List.replicate (padz N) 0 ++ (List.range j).map (len8 N)) from sm_app (HSZ.out _) (Pol.co_lt_of fun x hx => by
        obtain ⟨q, _, rfl⟩ := List.mem_map.1 hx
        exact Nat.mod_lt _ (by decide)))
      have HLT := Lib.hid (fun j => show (b ++ [128] ++ List.replicate (padz N) 0 ++ (List.range j).map (len8 N)).length = n + 1 + padz N + j from by rw [List.length_append, HLZ.out, List.length_map, List.length_range])
      have HTS := Lib.hid (fun j => show b ++ [128] ++ List.replicate (padz N) 0 ++ (List.range (j + 1)).map (len8 N) = b ++ [128] ++ List.replicate (padz N) 0 ++ (List.range j).map (len8 N) ++ [len8 N j] from by rw [List.range_succ, List.map_append, ← List.append_assoc]; rfl)
      have HV := Lib.hid (fun j => len8_at N j)
      have hp64 : padz N < 64 := by unfold padz; omega
      clear HM HXX hc7 hs7 hLb HL em' hpz64 ew ew8
      obtain ⟨wt, hwt⟩ : ∃ q, q = wr := ⟨_, rfl⟩
      subst hwt
      go_loopg [5, 22] 8 (fun gk s5 s22 wx => ∃ j : Nat, j + gk = 8 ∧ s22 = .int .i64 (j : Int) ∧ Mine wx base s5 (b ++ [128] ++ List.replicate (padz N) 0 ++ (List.range j).map (len8 N)) ∧ Ext w wx)
      case atStart => exact ⟨0, by omega, rfl, HMT.out, HXT.out⟩
      case round =>
        obtain ⟨j, hjg, rfl, hm, hx⟩ := hrel
        have HM := Lib.hid hm
        have HXX := Lib.hid hx
        obtain ⟨B7, c7, rfl, hc7, _⟩ := hm.slice (HST.out j)
        rw [HLT.out] at hc7 HM ⊢
        have hs7 := hx.size
        rw [HB.out] at hs7
        have HJG := Lib.hid hjg
        clear hm hx
        cases gk with
        | zero =>
          obtain rfl : j = 8 := by omega
          go_wp2
          go_ret
          exact gives_of HM.out rfl HE8.out HXX.out
        | succ gk =>
          have hj8 : j < 8 := by omega
          have hjI : (j : Int) < 8 := by omega
          obtain ⟨v, hv⟩ : ∃ v, 56 - 8 * j = v := ⟨_, rfl⟩
          have hvI : 56 - 8 * (j : Int) = (v : Int) := by omega
          have hq2 := HV.out j v (by omega)
          obtain ⟨d, hd⟩ : ∃ d, len8 N j = d := ⟨_, rfl⟩
          have hd8 : d < 256 := by rw [← hd]; exact Nat.mod_lt _ (by decide)
          have HTJ := Lib.hid (fun (_ : Unit) => HTS.out j)
          rw [hd] at HTJ hq2
          have hq3 : (N : Int) * 8 / 2 ^ v % 256 = (d : Int) := by
            have e : min (IntKind.u64.wrap (v : Int)).toNat 64 = v := by rw [IntKind.wrap_u64]; omega
            rw [e] at hq2
            exact hq2
          clear hq2
          have e1 : wrap64 (8 * (j : Int)) = 8 * (j : Int) := by unfold wrap64; omega
          have e2 : wrap64 (56 - 8 * (j : Int)) = (v : Int) := by unfold wrap64; omega
          obtain ⟨L, hL⟩ : ∃ L, n + 1 + padz N + j = L := ⟨_, rfl⟩
          have HL := Lib.hid hL
          rw [hL] at hc7 HM ⊢
          have hLb : L < 1048576 := by omega
          clear hL hd hv hjg
          go_wp2_with (at_builtin; refine wpList_append_rd rfl (.tmp 25) (.tmp 32) rfl base (.slice B7 L c7) (b ++ [128] ++ List.replicate (padz N) 0 ++ (List.range j).map (len8 N)) [d] rfl (mine_ext HM.out ((Ext.refl _).alloc _)) (some ⟨wr.heap.size, 0, none⟩) 1 1 rfl rfl (rd_one wr d hd8) (by rw [HLT.out, HL.out]; simp; omega) (by simp; omega) ?_; intro v9 w9 hown9 hg9 hat9; rw [← (HTJ.out ())] at hown9; have HX9 := Lib.hid ((HXX.out.alloc (.cells #[.int .u8 (d : Int)] 5)).more hg9 (fun q hq => by rw [HB.out]; exact (HM.out.block q hq).1)); have HM9 := Lib.hid hown9; clear hown9 hg9 hat9)
          go_roundg gk
          case measure => omega
          case rel => exact ⟨j + 1, by have := HJG.out; omega, by go_num, HM9.out, HX9.out⟩
    | succ gk =>
      have hz' : L % 64 ≠ 56 := fun h => by have := hz.1 h; omega
      have em' : (L : Int) % 64 ≠ 56 := by omega
      clear hz hjg em hz'
      go_wp2_with (at_builtin; refine wpList_append_rd rfl (.tmp 16) (.tmp 17) rfl base (.slice B7 L c7) (b ++ [128] ++ List.replicate j 0) [0] rfl (mine_ext HM.out ((Ext.refl _).alloc _)) (some ⟨wr.heap.size, 0, none⟩) 1 1 rfl rfl (rd_one wr 0 (by omega)) (by rw [HLZ.out, HL.out]; simp; omega) (by simp; omega) ?_; intro v9 w9 hown9 hg9 hat9; rw [← HZS.out] at hown9; have HX9 := Lib.hid ((HXX.out.alloc (.cells #[.int .u8 0] 5)).more hg9 (fun q hq => by rw [HB.out]; exact (HM.out.block q hq).1)); have HM9 := Lib.hid hown9; clear hown9 hg9 hat9)
      go_roundg gk
      case measure => omega
      case rel => exact ⟨j + 1, by have := HJG.out; omega, HM9.out, HX9.out⟩
end Go.Proofs.YtfhmafncpodlbaaDoor

/-
  What Of of layer 10 does. Conditions: no more than 2^16 bytes; the constants lie where they were laid.
-/
namespace Go.Proofs.YtfhmafncpodlbaaDoor
open Go.RowKit
open Pol (co Sm)

theorem wl_congr {f f' : Nat → Nat} (h : ∀ i, i < 16 → f i = f' i) : ∀ n, wl f n = wl f' n
  | 0 => rfl
  | n + 1 => by
    rw [wl, wl, wl_congr h n]
    by_cases e : n < 16
    · rw [if_pos e, if_pos e, h n e]
    · rw [if_neg e, if_neg e]
theorem blk_congr {K H : List Nat} {f f' : Nat → Nat} (h : ∀ i, i < 16 → f i = f' i) : blk K f H = blk K f' H := by unfold blk; rw [wl_congr h 64]
/-- Blocks of one list, then of another. -/
theorem hsh_left {H K t u : List Nat} : ∀ n, 64 * n ≤ t.length → hsh H K (t ++ u) n = hsh H K t n
  | 0, _ => rfl
  | n + 1, h => by
    rw [hsh, hsh, hsh_left n (by omega)]
    refine blk_congr (fun i hi => ?_)
    have e : ∀ j, j < t.length → co (t ++ u) j = co t j := fun j hj => by unfold co; rw [List.getElem?_append_left hj]
    unfold word
    rw [e _ (by omega), e _ (by omega), e _ (by omega), e _ (by omega)]
theorem hsh_right {H K t u : List Nat} {m : Nat} (h : t.length = 64 * m) : ∀ n, hsh (hsh H K t m) K u n = hsh H K (t ++ u) (m + n)
  | 0 => by rw [hsh, Nat.add_zero, hsh_left m (by omega)]
  | n + 1 => by
    rw [hsh, hsh_right h n, ← Nat.add_assoc, hsh]
    refine blk_congr (fun i hi => ?_)
    have e : ∀ j k, j = t.length + k → co u k = co (t ++ u) j := fun j k hj => by
      subst hj
      unfold co
      rw [List.getElem?_append_right (by omega), Nat.add_sub_cancel_left]
    unfold word
    rw [e (64 * (m + n) + 4 * i) (64 * n + 4 * i) (by omega), e (64 * (m + n) + 4 * i + 1) (64 * n + 4 * i + 1) (by omega), e (64 * (m + n) + 4 * i + 2) (64 * n + 4 * i + 2) (by omega), e (64 * (m + n) + 4 * i + 3) (64 * n + 4 * i + 3) (by omega)]

/-- A block that was made stays. -/
theorem WBlk.ext' {w w' : World} {g : Nat} {V : Array Value} {T : TypeId} (h : w.heap[g]? = some (.cells V T (0, 0))) (hx : Ext w w') : w'.heap[g]? = some (.cells V T (0, 0)) :=
  (hx.below.block g (Array.getElem?_eq_some_iff.1 h).1).trans h
/-- The block of an array of 32 bits' numbers behind a loop that writes another block. -/
theorem WBlk.grown {T : TypeId} {n : Nat} {w w' : World} {g d : Nat} {f : Nat → Nat} (h : WBlk T n w g f) (hg : w.grownBy w' (some d)) (hne : g ≠ d) : WBlk T n w' g f := h.keep hg (fun e => hne (by injection e))

set_option maxHeartbeats 3200000 in
set_option maxRecDepth 100000 in
theorem sh_of (b : List Nat) (A : Option Addr) (ca : Nat) (w : World) (hgl : GL w) (hr : Rd w A b) (hc : b.length ≤ ca) (hl : b.length ≤ 65536) :
    Calls Tryd.prog 10 #[.slice A b.length ca] w (DgS (sha b) w) := by
  obtain ⟨g0, hg0⟩ : ∃ g, w.heap.size = g := ⟨_, rfl⟩
  have HW0 := Lib.hid hg0
  obtain ⟨n, hn⟩ : ∃ n, b.length = n := ⟨_, rfl⟩
  have HN := Lib.hid hn
  have HR := Lib.hid hr
  have HGL := Lib.hid (fun W (h : Ext w W) => hgl.ext h)
  rw [hn] at hc hl ⊢
  obtain ⟨k, hk⟩ : ∃ k, 64 * (n / 64) = k := ⟨_, rfl⟩
  have hkn : k ≤ n := by omega
  have em : (n : Int).tmod 64 = ((n % 64 : Nat) : Int) := by rw [Int.tmod_eq_emod_of_nonneg (by omega)]; omega
  have em2 : (n : Int) - (n : Int) % 64 = (k : Int) := by omega
  have ew : wrap64 ((n : Int) - (n : Int) % 64) = (k : Int) := by unfold wrap64; omega
  have HK := Lib.hid hk
  have hT := (HGL.out w (Ext.refl w)).1
  obtain ⟨V0, hV0⟩ : ∃ V, dt 8 (co HH) = V := ⟨_, rfl⟩
  have HG0 := Lib.hid (show ∀ W, Ext w W → ∃ T, W.heap[0]? = some (.cells V0 T (0, 0)) from fun W h => by rw [← hV0]; exact (HGL.out W h).1)
  have HI0 := Lib.hid (show (Tryd.prog.info? 39).map (·.size) = some V0.size from by rw [← hV0]; exact info_state _)
  have hz := zero_digest.1
  have HZ32 := Lib.hid (fun (_ : Unit) => show (bt 32 fun _ => 0).size = 32 from bt_size _ _)
  obtain ⟨Z, hZ⟩ : ∃ Z, (bt 32 fun _ => 0) = Z := ⟨_, rfl⟩
  -- the slices, the two states
  have ht := run_to_u8 A n ca k (by omega)
  obtain ⟨X, hx, hxr, _⟩ := run_rest_u8 A n ca k hkn hc
  have HTK := Lib.hid (show (b.take k).length = k from by rw [List.length_take, HN.out]; omega)
  have HDK := Lib.hid (show (b.drop k).length = n - k from by rw [List.length_drop, HN.out])
  have HXR := Lib.hid (fun W (h : Ext w W) => show Rd W X (b.drop k) from by
    have h2 := hxr W b (HR.out.ext h) HN.out
    have e : tab (n - k) (fun j => co b (k + j)) = b.drop k := dr_ext (by rw [tab_len, HDK.out]) (fun i hi => by
      rw [tab_len] at hi
      rw [co_tab, if_pos hi]
      unfold co
      rw [List.getElem?_drop])
    rwa [e] at h2)
  obtain ⟨S1, hS1⟩ : ∃ S, hsh HH KK (b.take k) (k / 64) = S := ⟨_, rfl⟩
  obtain ⟨EB, hEB⟩ : ∃ l, endb (b.drop k) n = l := ⟨_, rfl⟩
  obtain ⟨N2, hN2⟩ : ∃ N, EB.length = N := ⟨_, rfl⟩
  obtain ⟨S2, hS2⟩ : ∃ S, hsh S1 KK EB (N2 / 64) = S := ⟨_, rfl⟩
  have hS1l : S1.length = 8 := by rw [← hS1]; exact hsh_len _ _ _ HH_len _
  have hS1w : W32 S1 := by rw [← hS1]; exact hsh_w32 _ _ _ HH_w32 _
  have HT1 := Lib.hid (fun W (h : Ext w W) => show Calls Tryd.prog 20 #[.agg V0, .slice A k ca] W (Tells (.agg (dt 8 (co S1))) W) from by
    have h1 := sh_through HH (b.take k) A ca W (HGL.out W h) HH_w32 HH_len ((HR.out.ext h).take k) (by rw [HTK.out]; omega) (by rw [HTK.out, ← HK.out]; omega) (by rw [HTK.out]; omega)
    rw [HTK.out, hV0, hS1] at h1
    exact h1)
  have HEN := Lib.hid (fun W (h : Ext w W) => show Calls Tryd.prog 21 #[.slice X (n - k) (ca - k), .int .i64 (n : Int)] W (Gives EB W) from by
    have h1 := sh_ending (b.drop k) X (ca - k) n W (HXR.out W h) (by rw [HDK.out, ← HK.out]; omega) (by omega)
    rw [HDK.out, hEB] at h1
    exact h1)
  have HE2 := Lib.hid (show N2 % 64 = 0 ∧ N2 ≤ 1048576 from by
    have hp : padz n = (119 - n % 64) % 64 := rfl
    rw [← hN2, ← hEB, endb_len, HDK.out, hp, ← HK.out]
    omega)
  have HT2 := Lib.hid (fun W (h : Ext w W) B c (hB : Rd W B EB) (hcB : N2 ≤ c) => show Calls Tryd.prog 20 #[.agg (dt 8 (co S1)), .slice B N2 c] W (Tells (.agg (dt 8 (co S2))) W) from by
    have h1 := sh_through S1 EB B c W (HGL.out W h) hS1w hS1l hB (by rw [hN2]; exact hcB) (by rw [hN2]; exact HE2.out.1) (by rw [hN2]; exact HE2.out.2)
    rw [hN2, hS2] at h1
    exact h1)
  have HSE := Lib.hid (fun (_ : Unit) => show hsh HH KK (padded b) ((padded b).length / 64) = S2 from by
    have e := endb_padded b k
    rw [HN.out, hEB] at e
    rw [← e, List.length_append, HTK.out, hN2, ← hS2, ← hS1, hsh_right (m := k / 64) (by rw [HTK.out, ← HK.out]; omega)]
    congr 1
    have := HK.out
    omega)
  have HNB := Lib.hid hN2
  have HS2L := Lib.hid (show S2.length = 8 from by rw [← hS2]; exact hsh_len _ _ _ hS1l _)
  have HS2W := Lib.hid (show W32 S2 from by rw [← hS2]; exact hsh_w32 _ _ _ hS1w _)
  have HIS := Lib.hid (fun S => info_state (co S))
  have HZL := Lib.hid (show dt 8 (fun _ => 0) = #[.int .u32 0, .int .u32 0, .int .u32 0, .int .u32 0, .int .u32 0, .int .u32 0, .int .u32 0, .int .u32 0] from rfl)
  have HGLD := Lib.hid (fun W (h : Ext w W) => show (Instr.loadAt 39 (.pointer (some ⟨0, 0, none⟩))).run Tryd.prog W = .ok (.agg V0) W from by
    obtain ⟨T, hT⟩ := HG0.out W h
    simp only [Instr.loadAt, Instr.sureAddr, Sem.run_bind, Sem.run_pure, Result.andThen]
    exact run_loadVar_row W 0 T 39 V0 (0, 0) _ hT Tryd.underlying39 rfl HI0.out)
  clear hEB hS1w hS1l hS1 hS2 hN2 hV0 hT hgl hr hn hxr hk
  rw [hZ] at hz HZ32
  go_enter Tryd.func10, Tryd.ntmps10
  go_wp2_with fail
  have HX1 := Lib.hid ((Ext.refl w).alloc (.cells Z 25))
  have HR0 := Lib.hid (show (w.alloc (.cells Z 25)).heap[g0]? = some (.cells Z 25 (0, 0)) from by rw [← hg0]; exact heap_alloc_new w _)
  have HS0 := Lib.hid (show g0 < (w.alloc (.cells Z 25)).heap.size from by rw [← hg0]; simp)
  generalize w.alloc (.cells Z 25) = w1 at HX1 HR0 HS0 ⊢
  obtain ⟨V1, hV1⟩ : ∃ V, dt 8 (co S1) = V := ⟨_, rfl⟩
  have HI1 := Lib.hid (info_state (co S1))
  have HSR1 := Lib.hid (show (dt 8 fun _ => 0).size = (dt 8 (co S1)).size from by rw [dt_size, dt_size])
  have HOR1 := Lib.hid (dt_one 8 (co S1))
  obtain ⟨V2, hV2⟩ : ∃ V, dt 8 (co S2) = V := ⟨_, rfl⟩
  have HI2 := Lib.hid (info_state (co S2))
  have HSR2 := Lib.hid (show (dt 8 (co S1)).size = (dt 8 (co S2)).size from by rw [dt_size, dt_size])
  have HOR2 := Lib.hid (dt_one 8 (co S2))
  have HVE2 := Lib.hid (fun (_ : Unit) => hV2)
  rw [hV1] at HT1 HT2 HI1 HSR1 HOR1 HSR2
  rw [hV2] at HT2 HI2 HSR2 HOR2
  clear hV1 hV2
  go_wp2
  refine wp_region_plan (AfterT w1) [0, 1, 2, 3, 4, 5] (.yes 0 (.yes 1 (.yes 2 (.yes 3 (.two 4 (.one 5 (.one 6 .done)) 5 (.one 4 (.one 6 .done))))))) (by kernel_rfl) (fun c a a' w e h => ⟨e ▸ h.1, h.2⟩) (by kernel_rfl) ((Ext.refl w1).drew) ?_
  refine plan_load rfl 39 (.global 0) rfl (.agg V0) (by first | rfl | go_simp) (fun W hW => HGLD.out W (HX1.out.trans hW)) ?_
  refine plan_yes rfl (fun K hK => ?_); go_simp; refine ⟨_, fun _ _ => rfl, hK _ ?_⟩; clear hK K
  refine plan_yes rfl (fun K hK => ?_); go_simp; refine ⟨_, fun _ _ => rfl, hK _ ?_⟩; clear hK K
  refine plan_yes rfl (fun K hK => ?_); go_simp; refine ⟨_, fun W _ => rfl, hK _ ?_⟩; clear hK K
  refine plan_two rfl rfl (fun K hK => ?_) (fun K hK => ?_)
  · go_wp2_with fail
    refine (HT1.out _ (HX1.out.drew)).mono ?_
    rintro e v4 ⟨rfl, hx4⟩
    have HX4 := Lib.hid (show AfterT w1 v4 from Ext.trans ((Ext.refl w1).drew) hx4)
    clear hx4
    go_wp2
    refine ⟨fun _ => HX4.out, ?_⟩
    refine plan_one rfl (fun K hK => ?_)
    go_wp2
    have HX6 := Lib.hid (show AfterT w1 (World.alloc v4 (.cells (dt 8 fun _ => 0) 39)) from Ext.alloc HX4.out _)
    have HB6 := Lib.hid (WBlk.new (T := 39) (n := 8) v4 (fun _ => 0))
    have HGX := Lib.hid (show w1.heap.size ≤ (v4).heap.size from Ext.size HX4.out)
    rw [HZL.out] at HX6 HB6
    refine ⟨fun _ => HX6.out, ?_⟩
    generalize hgx : (v4).heap.size = gx at HB6 HGX ⊢
    generalize World.alloc v4 _ = v6 at HX6 HB6 ⊢
    clear hgx
    refine plan_one rfl (fun K hK => ?_)
    have HG7 := Lib.hid (setRow_heap _ gx _ V1 _ _ HB6.out)
    have HX7 := Lib.hid (Ext.setRow HX6.out HGX.out V1)
    have hb0 := HB6.out
    unfold WBlk at hb0
    have HB0 := Lib.hid hb0
    clear hb0
    go_wp2_with (with_reducible refine wpList_store_all rfl 39 (.tmp 4) (.tmp 17) rfl gx (dt 8 fun _ => 0) V1 rfl rfl HB0.out HI1.out HSR1.out HOR1.out ?_)
    refine ⟨fun h => absurd h (by decide), ?_⟩
    unfold wpPlan
    obtain ⟨wz, hwz⟩ : ∃ q, World.setRow v6 gx V1 = q := ⟨_, rfl⟩
    rw [hwz] at HG7 HX7 ⊢
    clear hwz
    have HLS := Lib.hid (fun W (h : AfterT wz W) => run_load_all W gx 39 V1 8 38 Tryd.underlying39 (WBlk.ext' HG7.out h) HI1.out)
    have HXZ := Lib.hid (HX1.out.trans HX7.out)
    go_wp2
    refine wp_region_plan (AfterT wz) [0, 1, 2, 3, 4, 5, 6] (.yes 0 (.yes 1 (.yes 2 (.yes 3 (.yes 4 (.yes 5 (.one 6 (.one 7 (.one 8 .done))))))))) (by kernel_rfl) (fun c a a' w e h => ⟨e ▸ h.1, h.2⟩) (by kernel_rfl) ((Ext.refl wz).drew) ?_
    refine plan_load rfl 39 (.tmp 4) rfl (.agg V1) (by first | rfl | go_simp) (fun W hW => HLS.out W hW) ?_
    refine plan_yes rfl (fun K hK => ?_); go_simp; refine ⟨_, fun _ _ => rfl, hK _ ?_⟩; clear hK K
    refine plan_yes rfl (fun K hK => ?_); go_simp; refine ⟨_, fun _ _ => rfl, hK _ ?_⟩; clear hK K
    refine plan_yes rfl (fun K hK => ?_); go_simp; refine ⟨_, fun _ _ => rfl, hK _ ?_⟩; clear hK K
    refine plan_yes rfl (fun K hK => ?_); go_simp; refine ⟨_, fun _ _ => rfl, hK _ ?_⟩; clear hK K
    refine plan_yes rfl (fun K hK => ?_); go_simp; refine ⟨_, fun _ _ => rfl, hK _ ?_⟩; clear hK K
    refine plan_one rfl (fun K hK => ?_)
    go_wp2_with fail
    refine (HEN.out _ (HXZ.out.drew)).mono ?_
    rintro e v7 ⟨BE, cE, rfl, hcE, hrE, hx7⟩
    rw [HNB.out] at hcE ⊢
    have HX8 := Lib.hid (show AfterT wz v7 from Ext.trans ((Ext.refl wz).drew) hx7)
    have HRE := Lib.hid hrE
    clear hx7 hrE
    go_wp2
    refine ⟨fun _ => HX8.out, ?_⟩
    refine plan_one rfl (fun K hK => ?_)
    go_wp2_with fail
    refine (HT2.out _ (HXZ.out.trans HX8.out) BE cE HRE.out hcE).mono ?_
    rintro e v8 ⟨rfl, hx8⟩
    have HX9 := Lib.hid (show AfterT wz v8 from Ext.trans HX8.out hx8)
    clear hx8
    go_wp2
    refine ⟨fun h => absurd h (by decide), ?_⟩
    refine plan_one rfl (fun K hK => ?_)
    have HB8 := Lib.hid (WBlk.ext' HG7.out HX9.out)
    have HGA := Lib.hid (setRow_heap _ gx _ V2 _ _ HB8.out)
    have HXA := Lib.hid (Ext.setRow (HX7.out.trans HX9.out) HGX.out V2)
    go_wp2_with (with_reducible refine wpList_store_all rfl 39 (.tmp 4) (.tmp 25) rfl gx V1 V2 rfl rfl HB8.out HI2.out HSR2.out HOR2.out ?_)
    refine ⟨fun h => absurd h (by decide), ?_⟩
    unfold wpPlan
    obtain ⟨wy, hwy⟩ : ∃ q, World.setRow v8 gx V2 = q := ⟨_, rfl⟩
    rw [hwy] at HGA HXA ⊢
    clear hwy
    have HRY := Lib.hid (WBlk.ext' HR0.out HXA.out)
    have HSY := Lib.hid (show gx < wy.heap.size from (Array.getElem?_eq_some_iff.1 HGA.out).1)
    have HXY := Lib.hid (HX1.out.trans HXA.out)
    have HGY := Lib.hid (show WBlk 39 8 wy gx (co S2) from by unfold WBlk; rw [HVE2.out ()]; exact HGA.out)
    have hbs : Z.size = 32 := HZ32.out ()
    have hbo : Z.all (·.oneCell') = true := by rw [← hZ]; exact bt_one _ _
    have g1 := heap_alloc_new wy (.cells Z 25)
    have hst := store32 (wy.alloc (.cells Z 25)) wy.heap.size (fun _ => 0) (fun _ => 0) (by unfold DBlk; rw [hZ]; exact g1)
    rw [hZ, setRow_same _ _ _ _ g1] at hst
    have HG1 := Lib.hid (show DBlk (wy.alloc (.cells Z 25)) wy.heap.size (fun _ => 0) from by unfold DBlk; rw [hZ]; exact g1)
    have HXD := Lib.hid ((Ext.refl wy).alloc (.cells Z 25))
    clear g1
    go_wp2_with fail
    clear hst hbs hbo
    obtain ⟨db, hdb⟩ : ∃ db, wy.heap.size = db := ⟨_, rfl⟩
    have HDB := Lib.hid hdb
    rw [hdb] at HG1 HSY ⊢
    clear hdb
    have HRW := Lib.hid (WBlk.ext' HRY.out HXD.out)
    have HGW := Lib.hid (WBlk.ext HGY.out HXD.out)
    have HXW := Lib.hid (HXY.out.trans HXD.out)
    have HG0D := Lib.hid (show g0 < db from by have := (Array.getElem?_eq_some_iff.1 HRY.out).1; have := HDB.out; omega)
    generalize wy.alloc (.cells Z 25) = W at HG1 HXD HRW HGW HXW ⊢
    go_loopg [27] 32 (fun gk s27 wx => ∃ i : Nat, i + gk = 32 ∧ s27 = .int .i64 (i : Int) ∧ DBlk wx db (fun j => if j < i then digB S2 j else 0) ∧ W.grownBy wx (some db))
    case atStart => exact ⟨0, by omega, rfl, HG1.out.congr (fun i _ => by rw [if_neg (by omega)]), ⟨rfl, rfl, rfl, Nat.le_refl _, fun _ _ _ => rfl⟩⟩
    case round =>
      obtain ⟨i, hig, rfl, hb, hg2⟩ := hrel
      have HB2 := Lib.hid hb
      have HG2 := Lib.hid hg2
      have HIG := Lib.hid hig
      clear hb hg2 hig
      cases gk with
      | zero =>
        have hi32 : 32 ≤ i := by have := HIG.out; omega
        have hi : ¬ ((i : Int) < 32) := by omega
        have d1 : decide ((i : Int) < 32) = false := decide_eq_false hi
        have hbl := HB2.out.congr (f' := digB S2) (fun j hj => by rw [if_pos (by omega)])
        have hrw := (HG2.out.block g0 (by have := (Array.getElem?_eq_some_iff.1 HRW.out).1; exact this) (fun e => by injection e with e; have := HG0D.out; omega)).trans HRW.out
        have HBL := Lib.hid hbl
        have HRR := Lib.hid hrw
        have HG3 := Lib.hid (setRow_heap _ _ _ (bt 32 (digB S2)) _ _ hrw)
        have HX3 := Lib.hid ((HXW.out.more HG2.out (fun q e => by injection e with e; rw [← e, HW0.out]; exact Nat.le_of_lt HG0D.out)).setRow (g := g0) (by rw [HW0.out]; exact Nat.le_refl _) (bt 32 (digB S2)))
        have HIN := Lib.hid (info32 (digB S2))
        have HSZ := Lib.hid (show Z.size = (bt 32 (digB S2)).size by rw [bt_size, (HZ32.out ())])
        have HON := Lib.hid (fun (_ : Unit) => (bt_one 32 (digB S2)))
        have HV := Lib.hid (show Dgc (bt 32 (digB S2)) (sha b) from ⟨bt_size _ _, fun j hj => by
          rw [bt_at 32 _ j hj]
          unfold sha shaK
          rw [co_map _ _ _ (by rw [List.length_range]; exact hj), show co (List.range 32) j = j from by unfold co; rw [List.getElem?_range hj]; rfl, HSE.out ()]⟩)
        clear hi hi32 hbl hrw
        unfold DBlk at HBL
        generalize bt 32 (digB S2) = V at HBL HG3 HX3 HIN HSZ HON HV
        go_wp2_with (first | (with_reducible refine wpList_load_row rfl 25 (.tmp 5) rfl db rfl 25 V (0, 0) _ HBL.out Tryd.underlying25 rfl HIN.out ?_) | (with_reducible refine wpList_store_all rfl 25 (.tmp 2) (.tmp 43) rfl g0 Z V rfl rfl HRR.out HIN.out HSZ.out (HON.out ()) ?_))
        exact ⟨rfl, .agg V, results_cell_row Tryd.results10 _ _ g0 25 V (0, 0) _ rfl HG3.out Tryd.underlying25 rfl HIN.out, V, rfl, HV.out, HX3.out⟩
      | succ gk =>
        have hi : i < 32 := by have := HIG.out; omega
        have hiI : (i : Int) < 32 := by omega
        obtain ⟨q, hq⟩ : ∃ q, i / 4 = q := ⟨_, rfl⟩
        obtain ⟨r, hr⟩ : ∃ r, i % 4 = r := ⟨_, rfl⟩
        obtain ⟨v, hv⟩ : ∃ v, 24 - 8 * r = v := ⟨_, rfl⟩
        have hq8 : q < 8 := by omega
        have hcq := (WBlk.grown HGW.out HG2.out (by have := HSY.out; omega)).cell q hq8
        obtain ⟨x, hx⟩ : ∃ x, co S2 q = x := ⟨_, rfl⟩
        rw [hx] at hcq
        have hx32 : x < 4294967296 := by rw [← hx]; exact HS2W.out.at q
        have e1 : (i : Int) / 4 = (q : Int) := by omega
        have e1' : (i : Int).tdiv 4 = (q : Int) := by rw [Int.tdiv_eq_ediv_of_nonneg (by omega)]; omega
        have e2 : (i : Int) % 4 = (r : Int) := by omega
        have e2' : (i : Int).tmod 4 = (r : Int) := by rw [Int.tmod_eq_emod_of_nonneg (by omega)]; omega
        have e3 : 24 - 8 * (r : Int) = (v : Int) := by omega
        have e4 : wrap64 (8 * (r : Int)) = 8 * (r : Int) := by unfold wrap64; omega
        have e5 : wrap64 (24 - 8 * (r : Int)) = (v : Int) := by unfold wrap64; omega
        have hr4 : r < 4 := by omega
        have hqI : (q : Int) < 8 := by omega
        have hv24 : v ≤ 24 := by omega
        have hfz := HB2.out.frozen i
        have hck := HB2.out.cell i hi
        have HQ := Lib.hid (fun (_ : Unit) => (show digB S2 i = x / 2 ^ v % 256 from by unfold digB; rw [hq, hr, hv, hx]))
        clear hq hr hv hx
        go_wp2_with fail
        go_roundg gk
        case measure => omega
        case rel =>
          have ev : (x : Int) / 2 ^ v % 256 = ((digB S2 i : Nat) : Int) := by rw [(HQ.out ())]; simp
          refine ⟨i + 1, by have := HIG.out; omega, by go_num, ?_, HG2.out.trans (grown_set _ _ _ _)⟩
          rw [ev]
          exact (HB2.out.store i (digB S2 i)).congr (fun j _ => by
            unfold upd
            by_cases h : j = i
            · subst h; rw [if_pos rfl, if_pos (by omega)]
            · rw [if_neg h]
              show (if j < i then digB S2 j else 0) = if j < i + 1 then digB S2 j else 0
              by_cases h2 : j < i
              · rw [if_pos h2, if_pos (by omega)]
              · rw [if_neg h2, if_neg (by omega)])
  · go_wp2
    have HX6 := Lib.hid (show AfterT w1 (World.drew (World.alloc w1 (.cells (dt 8 fun _ => 0) 39))) from (Ext.alloc (Ext.refl w1) _).drew)
    have HB6 := Lib.hid (show WBlk 39 8 (World.drew (World.alloc w1 (.cells (dt 8 fun _ => 0) 39))) w1.heap.size (fun _ => 0) from WBlk.new (T := 39) (n := 8) w1 (fun _ => 0))
    rw [HZL.out] at HX6 HB6
    refine ⟨fun _ => HX6.out, ?_⟩
    generalize hgx : w1.heap.size = gx at HB6 ⊢
    have HGX := Lib.hid (Nat.le_of_eq hgx)
    generalize (World.alloc w1 _).drew = v6 at HX6 HB6 ⊢
    clear hgx
    refine plan_one rfl (fun K hK => ?_)
    go_wp2_with fail
    refine (HT1.out _ (HX1.out.trans HX6.out)).mono ?_
    rintro e v4 ⟨rfl, hx4⟩
    have HX4 := Lib.hid (show AfterT w1 v4 from Ext.trans HX6.out hx4)
    have HB4 := Lib.hid (WBlk.ext HB6.out hx4)
    clear hx4
    go_wp2
    refine ⟨fun _ => HX4.out, ?_⟩
    refine plan_one rfl (fun K hK => ?_)
    have HG7 := Lib.hid (setRow_heap _ gx _ V1 _ _ HB4.out)
    have HX7 := Lib.hid (Ext.setRow HX4.out HGX.out V1)
    have hb0 := HB4.out
    unfold WBlk at hb0
    have HB0 := Lib.hid hb0
    clear hb0
    go_wp2_with (with_reducible refine wpList_store_all rfl 39 (.tmp 4) (.tmp 17) rfl gx (dt 8 fun _ => 0) V1 rfl rfl HB0.out HI1.out HSR1.out HOR1.out ?_)
    refine ⟨fun h => absurd h (by decide), ?_⟩
    unfold wpPlan
    obtain ⟨wz, hwz⟩ : ∃ q, World.setRow v4 gx V1 = q := ⟨_, rfl⟩
    rw [hwz] at HG7 HX7 ⊢
    clear hwz
    have HLS := Lib.hid (fun W (h : AfterT wz W) => run_load_all W gx 39 V1 8 38 Tryd.underlying39 (WBlk.ext' HG7.out h) HI1.out)
    have HXZ := Lib.hid (HX1.out.trans HX7.out)
    go_wp2
    refine wp_region_plan (AfterT wz) [0, 1, 2, 3, 4, 5, 6] (.yes 0 (.yes 1 (.yes 2 (.yes 3 (.yes 4 (.yes 5 (.one 6 (.one 7 (.one 8 .done))))))))) (by kernel_rfl) (fun c a a' w e h => ⟨e ▸ h.1, h.2⟩) (by kernel_rfl) ((Ext.refl wz).drew) ?_
    refine plan_load rfl 39 (.tmp 4) rfl (.agg V1) (by first | rfl | go_simp) (fun W hW => HLS.out W hW) ?_
    refine plan_yes rfl (fun K hK => ?_); go_simp; refine ⟨_, fun _ _ => rfl, hK _ ?_⟩; clear hK K
    refine plan_yes rfl (fun K hK => ?_); go_simp; refine ⟨_, fun _ _ => rfl, hK _ ?_⟩; clear hK K
    refine plan_yes rfl (fun K hK => ?_); go_simp; refine ⟨_, fun _ _ => rfl, hK _ ?_⟩; clear hK K
    refine plan_yes rfl (fun K hK => ?_); go_simp; refine ⟨_, fun _ _ => rfl, hK _ ?_⟩; clear hK K
    refine plan_yes rfl (fun K hK => ?_); go_simp; refine ⟨_, fun _ _ => rfl, hK _ ?_⟩; clear hK K
    refine plan_one rfl (fun K hK => ?_)
    go_wp2_with fail
    refine (HEN.out _ (HXZ.out.drew)).mono ?_
    rintro e v7 ⟨BE, cE, rfl, hcE, hrE, hx7⟩
    rw [HNB.out] at hcE ⊢
    have HX8 := Lib.hid (show AfterT wz v7 from Ext.trans ((Ext.refl wz).drew) hx7)
    have HRE := Lib.hid hrE
    clear hx7 hrE
    go_wp2
    refine ⟨fun _ => HX8.out, ?_⟩
    refine plan_one rfl (fun K hK => ?_)
    go_wp2_with fail
    refine (HT2.out _ (HXZ.out.trans HX8.out) BE cE HRE.out hcE).mono ?_
    rintro e v8 ⟨rfl, hx8⟩
    have HX9 := Lib.hid (show AfterT wz v8 from Ext.trans HX8.out hx8)
    clear hx8
    go_wp2
    refine ⟨fun h => absurd h (by decide), ?_⟩
    refine plan_one rfl (fun K hK => ?_)
    have HB8 := Lib.hid (WBlk.ext' HG7.out HX9.out)
    have HGA := Lib.hid (setRow_heap _ gx _ V2 _ _ HB8.out)
    have HXA := Lib.hid (Ext.setRow (HX7.out.trans HX9.out) HGX.out V2)
    go_wp2_with (with_reducible refine wpList_store_all rfl 39 (.tmp 4) (.tmp 25) rfl gx V1 V2 rfl rfl HB8.out HI2.out HSR2.out HOR2.out ?_)
    refine ⟨fun h => absurd h (by decide), ?_⟩
    unfold wpPlan
    obtain ⟨wy, hwy⟩ : ∃ q, World.setRow v8 gx V2 = q := ⟨_, rfl⟩
    rw [hwy] at HGA HXA ⊢
    clear hwy
    have HRY := Lib.hid (WBlk.ext' HR0.out HXA.out)
    have HSY := Lib.hid (show gx < wy.heap.size from (Array.getElem?_eq_some_iff.1 HGA.out).1)
    have HXY := Lib.hid (HX1.out.trans HXA.out)
    have HGY := Lib.hid (show WBlk 39 8 wy gx (co S2) from by unfold WBlk; rw [HVE2.out ()]; exact HGA.out)
    have hbs : Z.size = 32 := HZ32.out ()
    have hbo : Z.all (·.oneCell') = true := by rw [← hZ]; exact bt_one _ _
    have g1 := heap_alloc_new wy (.cells Z 25)
    have hst := store32 (wy.alloc (.cells Z 25)) wy.heap.size (fun _ => 0) (fun _ => 0) (by unfold DBlk; rw [hZ]; exact g1)
    rw [hZ, setRow_same _ _ _ _ g1] at hst
    have HG1 := Lib.hid (show DBlk (wy.alloc (.cells Z 25)) wy.heap.size (fun _ => 0) from by unfold DBlk; rw [hZ]; exact g1)
    have HXD := Lib.hid ((Ext.refl wy).alloc (.cells Z 25))
    clear g1
    go_wp2_with fail
    clear hst hbs hbo
    obtain ⟨db, hdb⟩ : ∃ db, wy.heap.size = db := ⟨_, rfl⟩
    have HDB := Lib.hid hdb
    rw [hdb] at HG1 HSY ⊢
    clear hdb
    have HRW := Lib.hid (WBlk.ext' HRY.out HXD.out)
    have HGW := Lib.hid (WBlk.ext HGY.out HXD.out)
    have HXW := Lib.hid (HXY.out.trans HXD.out)
    have HG0D := Lib.hid (show g0 < db from by have := (Array.getElem?_eq_some_iff.1 HRY.out).1; have := HDB.out; omega)
    generalize wy.alloc (.cells Z 25) = W at HG1 HXD HRW HGW HXW ⊢
    go_loopg [27] 32 (fun gk s27 wx => ∃ i : Nat, i + gk = 32 ∧ s27 = .int .i64 (i : Int) ∧ DBlk wx db (fun j => if j < i then digB S2 j else 0) ∧ W.grownBy wx (some db))
    case atStart => exact ⟨0, by omega, rfl, HG1.out.congr (fun i _ => by rw [if_neg (by omega)]), ⟨rfl, rfl, rfl, Nat.le_refl _, fun _ _ _ => rfl⟩⟩
    case round =>
      obtain ⟨i, hig, rfl, hb, hg2⟩ := hrel
      have HB2 := Lib.hid hb
      have HG2 := Lib.hid hg2
      have HIG := Lib.hid hig
      clear hb hg2 hig
      cases gk with
      | zero =>
        have hi32 : 32 ≤ i := by have := HIG.out; omega
        have hi : ¬ ((i : Int) < 32) := by omega
        have d1 : decide ((i : Int) < 32) = false := decide_eq_false hi
        have hbl := HB2.out.congr (f' := digB S2) (fun j hj => by rw [if_pos (by omega)])
        have hrw := (HG2.out.block g0 (by have := (Array.getElem?_eq_some_iff.1 HRW.out).1; exact this) (fun e => by injection e with e; have := HG0D.out; omega)).trans HRW.out
        have HBL := Lib.hid hbl
        have HRR := Lib.hid hrw
        have HG3 := Lib.hid (setRow_heap _ _ _ (bt 32 (digB S2)) _ _ hrw)
        have HX3 := Lib.hid ((HXW.out.more HG2.out (fun q e => by injection e with e; rw [← e, HW0.out]; exact Nat.le_of_lt HG0D.out)).setRow (g := g0) (by rw [HW0.out]; exact Nat.le_refl _) (bt 32 (digB S2)))
        have HIN := Lib.hid (info32 (digB S2))
        have HSZ := Lib.hid (show Z.size = (bt 32 (digB S2)).size by rw [bt_size, (HZ32.out ())])
        have HON := Lib.hid (fun (_ : Unit) => (bt_one 32 (digB S2)))
        have HV := Lib.hid (show Dgc (bt 32 (digB S2)) (sha b) from ⟨bt_size _ _, fun j hj => by
          rw [bt_at 32 _ j hj]
          unfold sha shaK
          rw [co_map _ _ _ (by rw [List.length_range]; exact hj), show co (List.range 32) j = j from by unfold co; rw [List.getElem?_range hj]; rfl, HSE.out ()]⟩)
        clear hi hi32 hbl hrw
        unfold DBlk at HBL
        generalize bt 32 (digB S2) = V at HBL HG3 HX3 HIN HSZ HON HV
        go_wp2_with (first | (with_reducible refine wpList_load_row rfl 25 (.tmp 5) rfl db rfl 25 V (0, 0) _ HBL.out Tryd.underlying25 rfl HIN.out ?_) | (with_reducible refine wpList_store_all rfl 25 (.tmp 2) (.tmp 43) rfl g0 Z V rfl rfl HRR.out HIN.out HSZ.out (HON.out ()) ?_))
        exact ⟨rfl, .agg V, results_cell_row Tryd.results10 _ _ g0 25 V (0, 0) _ rfl HG3.out Tryd.underlying25 rfl HIN.out, V, rfl, HV.out, HX3.out⟩
      | succ gk =>
        have hi : i < 32 := by have := HIG.out; omega
        have hiI : (i : Int) < 32 := by omega
        obtain ⟨q, hq⟩ : ∃ q, i / 4 = q := ⟨_, rfl⟩
        obtain ⟨r, hr⟩ : ∃ r, i % 4 = r := ⟨_, rfl⟩
        obtain ⟨v, hv⟩ : ∃ v, 24 - 8 * r = v := ⟨_, rfl⟩
        have hq8 : q < 8 := by omega
        have hcq := (WBlk.grown HGW.out HG2.out (by have := HSY.out; omega)).cell q hq8
        obtain ⟨x, hx⟩ : ∃ x, co S2 q = x := ⟨_, rfl⟩
        rw [hx] at hcq
        have hx32 : x < 4294967296 := by rw [← hx]; exact HS2W.out.at q
        have e1 : (i : Int) / 4 = (q : Int) := by omega
        have e1' : (i : Int).tdiv 4 = (q : Int) := by rw [Int.tdiv_eq_ediv_of_nonneg (by omega)]; omega
        have e2 : (i : Int) % 4 = (r : Int) := by omega
        have e2' : (i : Int).tmod 4 = (r : Int) := by rw [Int.tmod_eq_emod_of_nonneg (by omega)]; omega
        have e3 : 24 - 8 * (r : Int) = (v : Int) := by omega
        have e4 : wrap64 (8 * (r : Int)) = 8 * (r : Int) := by unfold wrap64; omega
        have e5 : wrap64 (24 - 8 * (r : Int)) = (v : Int) := by unfold wrap64; omega
        have hr4 : r < 4 := by omega
        have hqI : (q : Int) < 8 := by omega
        have hv24 : v ≤ 24 := by omega
        have hfz := HB2.out.frozen i
        have hck := HB2.out.cell i hi
        have HQ := Lib.hid (fun (_ : Unit) => (show digB S2 i = x / 2 ^ v % 256 from by unfold digB; rw [hq, hr, hv, hx]))
        clear hq hr hv hx
        go_wp2_with fail
        go_roundg gk
        case measure => omega
        case rel =>
          have ev : (x : Int) / 2 ^ v % 256 = ((digB S2 i : Nat) : Int) := by rw [(HQ.out ())]; simp
          refine ⟨i + 1, by have := HIG.out; omega, by go_num, ?_, HG2.out.trans (grown_set _ _ _ _)⟩
          rw [ev]
          exact (HB2.out.store i (digB S2 i)).congr (fun j _ => by
            unfold upd
            by_cases h : j = i
            · subst h; rw [if_pos rfl, if_pos (by omega)]
            · rw [if_neg h]
              show (if j < i then digB S2 j else 0) = if j < i + 1 then digB S2 j else 0
              by_cases h2 : j < i
              · rw [if_pos h2, if_pos (by omega)]
              · rw [if_neg h2, if_neg (by omega)])
end Go.Proofs.YtfhmafncpodlbaaDoor

/-
  What it is to lay something behind bytes of a call's own. Conditions: none; no function is named here.
-/
namespace Go.Proofs.YtfhmafncpodlbaaDoor
open Go.RowKit
open Pol (co Sm)

/-- What lays something behind bytes of a call's own. -/
def Lays (base : Nat) (v : Value) (l : List Nat) (w : World) (e : Ending) (w' : World) : Prop :=
  ∃ v', e = .returned v' ∧ Mine w' base v' l ∧ w.grownBy w' v.ownBlock ∧ (v'.ownBlock = v.ownBlock ∨ ∃ k, v'.ownBlock = some k ∧ w.heap.size ≤ k)
/-- From v in world w on, vx has come in world wx. -/
def LayS (w wx : World) (v vx : Value) : Prop := w.grownBy wx v.ownBlock ∧ (vx.ownBlock = v.ownBlock ∨ ∃ k, vx.ownBlock = some k ∧ w.heap.size ≤ k)
theorem LayS.refl (w : World) (v : Value) : LayS w w v v := ⟨⟨rfl, rfl, rfl, Nat.le_refl _, fun _ _ _ => rfl⟩, .inl rfl⟩
theorem LayS.step {w wx w' : World} {v vx v' : Value} (h : LayS w wx v vx) (hg : wx.grownBy w' vx.ownBlock) (ha : v'.ownBlock = vx.ownBlock ∨ v'.ownBlock = some wx.heap.size) : LayS w w' v v' := by
  refine ⟨⟨hg.os.trans h.1.os, hg.tape.trans h.1.tape, hg.output.trans h.1.output, Nat.le_trans h.1.size hg.size, fun k hk hne => (hg.block k (Nat.lt_of_lt_of_le hk h.1.size) ?_).trans (h.1.block k hk hne)⟩, ?_⟩
  · intro e
    rcases h.2 with e' | ⟨b, e', hb⟩
    · exact hne (e.trans e')
    · rw [e'] at e
      injection e with e
      omega
  · rcases ha with e | e
    · rcases h.2 with e' | ⟨b, e', hb⟩
      · exact .inl (e.trans e')
      · exact .inr ⟨b, e.trans e', hb⟩
    · exact .inr ⟨_, e, h.1.size⟩
theorem LayS.alloc {w wx : World} {v vx : Value} (h : LayS w wx v vx) (o : Obj) : LayS w (wx.alloc o) v vx :=
  ⟨⟨h.1.os, h.1.tape, h.1.output, by simp; have := h.1.size; omega, fun k hk hne => (heap_alloc_old _ _ (Nat.lt_of_lt_of_le hk h.1.size)).trans (h.1.block k hk hne)⟩, h.2⟩
theorem LayS.lays {w w' : World} {base : Nat} {v v' : Value} {l : List Nat} (h : LayS w w' v v') (hm : Mine w' base v' l) : Lays base v l w (.returned v') w' := ⟨v', rfl, hm, h.1, h.2⟩

set_option maxRecDepth 100000 in
theorem or8_128 : ∀ b : Nat, b < 256 → bits .or .u8 (b : Int) 128 = ((b % 128 + 128 : Nat) : Int) := by decide

theorem LayS.ext {w wx wy : World} {v vx : Value} (h : LayS w wx v vx) (hx : Ext wx wy) : LayS w wy v vx :=
  ⟨⟨hx.below.os.trans h.1.os, hx.below.tape.trans h.1.tape, hx.below.output.trans h.1.output, Nat.le_trans h.1.size hx.size, fun k hk hne => (hx.below.block k (Nat.lt_of_lt_of_le hk h.1.size)).trans (h.1.block k hk hne)⟩, h.2⟩

end Go.Proofs.YtfhmafncpodlbaaDoor

/-
  What Number and Text of layer 8 lay behind bytes. Conditions: no more than 2^20 bytes each.
-/
namespace Go.Proofs.YtfhmafncpodlbaaDoor
open Go.RowKit
open Pol (co Sm)

set_option maxHeartbeats 1600000 in
set_option maxRecDepth 100000 in
theorem cd_layN (base : Nat) (v : Value) (l : List Nat) (n : Nat) (w : World) (hm : Mine w base v l) (hs : Sm l) (hl : l.length ≤ 1048576) (hn : n < 18446744073709551616) (hb : base ≤ w.heap.size) :
    Calls Tryd.prog 34 #[v, .int .u64 (n : Int)] w (Lays base v (l ++ vn n) w) := by
  have HSM := Lib.hid (sm_app hs (vn_sm n))
  have HTEN := Lib.hid (vn_ten hn)
  have hn10 : n < 128 ^ (9 + 1) := by omega
  obtain ⟨V, hV⟩ : ∃ V, l ++ vn n = V := ⟨_, rfl⟩
  have HVL := Lib.hid (show V.length ≤ 1048586 by rw [← hV, List.length_append]; have := HTEN.out; omega)
  rw [hV] at HSM
  rw [hV]
  have HV := Lib.hid hV
  clear hV
  obtain ⟨B0, c0, rfl, hc0, _⟩ := hm.slice hs
  have HM0 := Lib.hid hm
  have HB := Lib.hid hb
  obtain ⟨l0, hl0⟩ : ∃ l0, l.length = l0 := ⟨_, rfl⟩
  have HL0 := Lib.hid hl0
  obtain ⟨v0, hv0⟩ : ∃ v0, Value.slice B0 l.length c0 = v0 := ⟨_, rfl⟩
  rw [hv0] at HM0 ⊢
  rw [hl0] at hv0 hc0 hl
  have HV0 := Lib.hid hv0
  rw [← hv0]
  clear hm hb hl0 hv0
  go_enter Tryd.func34, Tryd.ntmps34
  go_wp2
  go_loopg [0, 1] 9 (fun g s0 s1 wx => ∃ (m : Nat) (acc : List Nat) (B : Option Addr) (c : Nat), m < 128 ^ (g + 1) ∧ s1 = .int .u64 (m : Int) ∧ m < 18446744073709551616 ∧ acc ++ vn m = V ∧ s0 = .slice B acc.length c ∧ Mine wx base (.slice B acc.length c) acc ∧ LayS w wx v0 (.slice B acc.length c))
  case atStart => exact ⟨n, l, B0, c0, hn10, rfl, hn, HV.out, by rw [HL0.out], by rw [HL0.out, HV0.out]; exact HM0.out, by rw [HL0.out, HV0.out]; exact LayS.refl _ _⟩
  case round =>
    obtain ⟨m, acc, B, c, hmg, rfl, hm64, hac, rfl, hmi, hx⟩ := hrel
    have HM := Lib.hid hmi
    have HX := Lib.hid hx
    have hlen : acc.length ≤ 1048586 := by have := HVL.out; rw [← hac, List.length_append] at this; omega
    have hsz : w.heap.size ≤ wr.heap.size := hx.1.size
    have HSZ := Lib.hid (Nat.le_trans HB.out hsz)
    obtain ⟨la, hla⟩ : ∃ la, acc.length = la := ⟨_, rfl⟩
    have HLA := Lib.hid hla
    rw [hla] at HM HX hlen ⊢
    clear hmi hx hla hsz
    by_cases h128 : m < 128
    · have d1 : decide (128 ≤ (m : Int)) = false := decide_eq_false (by omega)
      have e1 : IntKind.u8.wrap (m : Int) = (m : Int) := IntWalk.u8_in _ (by omega)
      have HAV := Lib.hid (show acc ++ [m] = V from by rw [← hac, vn_lt h128])
      have hm256 : m < 256 := by omega
      clear hac hmg
      go_wp2_with (at_builtin; refine wpList_append_rd rfl (.tmp 15) (.tmp 18) rfl base _ acc [m] rfl (mine_ext HM.out ((Ext.refl _).alloc _)) (some ⟨wr.heap.size, 0, none⟩) 1 1 rfl rfl (rd_one wr m hm256) (by rw [HLA.out]; simp; omega) (by simp; have := HSZ.out; omega) ?_; intro v' w3 hown' hg' hat'; rw [HAV.out] at hown'; have hx3 := (HX.out.alloc (.cells #[.int .u8 (m : Int)] 5)).step hg' hat'; have HO := Lib.hid (hx3.lays hown'); clear hown' hg' hat' hx3)
      go_ret
      rw [HV0.out]
      exact HO.out
    · cases gk with
      | zero => omega
      | succ g =>
        have d1 : decide (128 ≤ (m : Int)) = true := decide_eq_true (by omega)
        obtain ⟨q, hq⟩ : ∃ q, m % 256 = q := ⟨_, rfl⟩
        obtain ⟨y, hy⟩ : ∃ y, q % 128 + 128 = y := ⟨_, rfl⟩
        obtain ⟨m2, hm2⟩ : ∃ m2, m / 128 = m2 := ⟨_, rfl⟩
        have e1 : IntKind.u8.wrap (m : Int) = (q : Int) := by rw [IntKind.wrap_u8]; omega
        have e2 : bits .or .u8 (q : Int) 128 = (y : Int) := by rw [or8_128 q (by omega), hy]
        have e5 : (m : Int) / 128 = (m2 : Int) := by omega
        have hy256 : y < 256 := by omega
        have HAV := Lib.hid (show (acc ++ [y]) ++ vn m2 = V from by
          rw [← hac, vn_ge h128, List.append_assoc, hm2, show m % 128 + 128 = y from by omega]; rfl)
        have HS9 := Lib.hid (show Sm (acc ++ [y]) from (sm_split (b := vn m2) (by rw [HAV.out]; exact HSM.out)).1)
        have HL9 := Lib.hid (show (acc ++ [y]).length = la + 1 by rw [List.length_append, HLA.out]; rfl)
        have hm2b : m2 < 128 ^ (g + 1) := by rw [← hm2]; rw [Nat.pow_succ] at hmg; omega
        have hm2c : m2 < 18446744073709551616 := by omega
        clear hac hq hy hm2 hmg
        go_wp2_with (at_builtin; refine wpList_append_rd rfl (.tmp 7) (.tmp 11) rfl base _ acc [y] rfl (mine_ext HM.out ((Ext.refl _).alloc _)) (some ⟨wr.heap.size, 0, none⟩) 1 1 rfl rfl (rd_one wr y hy256) (by rw [HLA.out]; simp; omega) (by simp; have := HSZ.out; omega) ?_; intro v' w3 hown' hg' hat'; have hx3 := (HX.out.alloc (.cells #[.int .u8 (y : Int)] 5)).step hg' hat'; obtain ⟨Bv, cv, ev', hcv, _⟩ := hown'.slice HS9.out; rw [HL9.out] at ev'; subst ev'; have HO := Lib.hid hown'; have HX3 := Lib.hid hx3; clear hown' hg' hat' hx3)
        go_roundg g
        case measure => omega
        case rel => exact ⟨m2, acc ++ [y], Bv, cv, hm2b, rfl, hm2c, HAV.out, by rw [HL9.out], by rw [HL9.out]; exact HO.out, by rw [HL9.out]; exact HX3.out⟩
set_option maxHeartbeats 1600000 in
theorem cd_layT (base : Nat) (v : Value) (l t : List Nat) (A : Option Addr) (ca : Nat) (w : World) (hm : Mine w base v l) (hs : Sm l) (hr : Rd w A t) (hl : l.length ≤ 1048576) (ht : t.length ≤ 1048576) (hb : base ≤ w.heap.size) :
    Calls Tryd.prog 27 #[v, .slice A t.length ca] w (Lays base v (l ++ vt t) w) := by
  have HN := Lib.hid (cd_layN w.heap.size (.slice none 0 0) [] t.length w (Mine.nil _ _) Sm.nil (by decide) (by omega) (Nat.le_refl _))
  have HR := Lib.hid hr
  have HM := Lib.hid hm
  have HB := Lib.hid hb
  have HS := Lib.hid (vt_sm hr.1)
  have HSN := Lib.hid (vn_sm t.length)
  have HTEN := Lib.hid (vn_ten (n := t.length) (by omega))
  have HVT := Lib.hid (show vn t.length ++ t = vt t from rfl)
  have HVL := Lib.hid (show (vt t).length ≤ 1048586 by rw [← HVT.out, List.length_append]; have := HTEN.out; omega)
  rw [List.nil_append] at HN
  obtain ⟨B0, c0, ev0, hc0, _⟩ := hm.slice hs
  have HV0 := Lib.hid ev0
  rw [ev0]
  clear hr hm hb
  generalize hn : t.length = n at *
  have HL := Lib.hid hn
  clear hn
  have e1 : IntKind.u64.wrap (n : Int) = (n : Int) := by rw [IntKind.wrap_u64]; omega
  generalize vn n = V at *
  obtain ⟨V2, hV2⟩ : ∃ V2, vt t = V2 := ⟨_, rfl⟩
  rw [hV2] at HS HVT HVL ⊢
  clear hV2 ev0
  go_enter Tryd.func27, Tryd.ntmps27
  go_wp2_with fail
  refine HN.out.mono ?_
  rintro e w1 ⟨v1, rfl, hm1, hg1, _⟩
  have HX1 := Lib.hid ((Ext.refl w).more hg1 (fun r e => by simp [Value.ownBlock] at e))
  obtain ⟨B, c, ev, hc, _⟩ := hm1.slice HSN.out
  subst ev
  have HM1 := Lib.hid hm1
  clear hm1 hg1
  obtain ⟨lv, hlv⟩ : ∃ lv, V.length = lv := ⟨_, rfl⟩
  have HLV := Lib.hid hlv
  rw [hlv] at HM1 hc HTEN ⊢
  clear hlv
  go_wp2_with (at_builtin; first | (refine wpList_append_rd rfl (.tmp 9) (.tmp 10) rfl w.heap.size _ V t rfl HM1.out A n ca rfl HL.out (HR.out.ext HX1.out) (by rw [HLV.out, HL.out]; have := HTEN.out; omega) (by have := HX1.out.size; omega) ?_; intro v2 w3 hown' hg' hat'; rw [HVT.out] at hown'; have hx3 := HX1.out.more hg' (fun r e => (HM1.out.block r e).1); obtain ⟨Bv, cv, ev', hcv, hrv⟩ := hown'.slice HS.out; subst ev'; have HR3 := Lib.hid hrv; have HX3 := Lib.hid hx3; clear hown' hg' hat' hx3 hrv) | (refine wpList_append_rd rfl (.tmp 12) (.tmp 13) rfl base _ l V2 rfl (HV0.out ▸ mine_ext HM.out HX3.out) Bv V2.length cv rfl rfl HR3.out (by have := HVL.out; omega) (by have := HX3.out.size; have := HB.out; omega) ?_; intro v4 w5 hown5 hg5 hat5; have HO := Lib.hid ((((LayS.refl w (.slice B0 l.length c0)).ext HX3.out).step hg5 hat5).lays hown5); clear hown5 hg5 hat5))
  go_ret
  exact HO.out

end Go.Proofs.YtfhmafncpodlbaaDoor

/-
  What Parts of layer 10 does. Conditions: no more than 1024 rows of 1024 bytes, no more than 2^16 bytes in all; the constants lie where they were laid.
-/
namespace Go.Proofs.YtfhmafncpodlbaaDoor
open Go.RowKit
open Pol (co Sm)

theorem Dgc.one {V : Array Value} {l : List Nat} (h : Dgc V l) : V.all (·.oneCell') = true := by
  rw [Array.all_eq_true]
  intro i hi
  have e := h.2 i (by rw [h.1] at hi; exact hi)
  rw [Array.getElem?_eq_getElem hi] at e
  injection e with e
  rw [e]
  rfl
theorem Dgc.info {V : Array Value} {l : List Nat} (h : Dgc V l) : (Tryd.prog.info? 25).map (·.size) = some V.size := by rw [h.1]; exact zero_digest.2
set_option maxHeartbeats 1600000 in
set_option maxRecDepth 100000 in
theorem sh_parts (rows : List (List Nat)) (A : Option Addr) (ca : Nat) (w : World) (hgl : GL w) (hr : RRd w A rows) (hl : rows.length ≤ 1024) (hls : ∀ i, i < rows.length → (ro rows i).length ≤ 1024) (hjn : (jn rows).length ≤ 65536) :
    Calls Tryd.prog 14 #[.slice A rows.length ca] w (DgS (sha (jn rows)) w) := by
  obtain ⟨g0, hg0⟩ : ∃ g, w.heap.size = g := ⟨_, rfl⟩
  have HW0 := Lib.hid hg0
  have HR := Lib.hid hr
  have HGL := Lib.hid (fun W (h : Ext w W) => hgl.ext h)
  have HSM := Lib.hid (fun i (hi : i < rows.length) => show Sm (ro rows i) from hr.sm _ (ro_in rows i hi))
  have HTK := Lib.hid (fun i (hi : i < rows.length) => show jn (rows.take (i + 1)) = jn (rows.take i) ++ vt (ro rows i) from by
    rw [List.take_succ_eq_append_getElem hi, jn_snoc, show ro rows i = rows[i] from by unfold ro; rw [List.getElem?_eq_getElem hi]; rfl])
  have HLS := Lib.hid hls
  have HLB := Lib.hid (fun i => show (jn (rows.take i)).length ≤ 65536 from by
    have e : jn (rows.take i) ++ jn (rows.drop i) = jn rows := by unfold jn; rw [← List.flatten_append, ← List.map_append, List.take_append_drop]
    have := congrArg List.length e
    rw [List.length_append] at this
    omega)
  have HOF := Lib.hid (fun A c W (h : Rd W A (jn rows)) (hc : (jn rows).length ≤ c) (hx : Ext w W) => sh_of (jn rows) A c W (HGL.out W hx) h hc hjn)
  obtain ⟨n, hn⟩ : ∃ n, rows.length = n := ⟨_, rfl⟩
  have HN := Lib.hid hn
  have HALL := Lib.hid (show rows.take n = rows from by rw [← hn, List.take_length])
  rw [hn] at hl HSM HTK HLS ⊢
  have hz := zero_digest.1
  have HZ32 := Lib.hid (fun (_ : Unit) => show (bt 32 fun _ => 0).size = 32 from bt_size _ _)
  obtain ⟨Z, hZ⟩ : ∃ Z, (bt 32 fun _ => 0) = Z := ⟨_, rfl⟩
  rw [hZ] at hz HZ32
  unfold DgS at HOF
  clear hr hn hls hgl hjn hZ
  go_enter Tryd.func14, Tryd.ntmps14
  go_wp2_with fail
  have HX1 := Lib.hid ((Ext.refl w).alloc (.cells Z 25))
  have HR0 := Lib.hid (show (w.alloc (.cells Z 25)).heap[g0]? = some (.cells Z 25 (0, 0)) from by rw [← hg0]; exact heap_alloc_new w _)
  have HS0 := Lib.hid (show g0 < (w.alloc (.cells Z 25)).heap.size from by rw [← hg0]; simp)
  generalize w.alloc (.cells Z 25) = w1 at HX1 HR0 HS0 ⊢
  clear hz hg0
  go_loopg [3, 8] n (fun g s3 s8 wx => ∃ i : Nat, i + g = n ∧ s8 = .int .i64 (i : Int) ∧ Mine wx w1.heap.size s3 (jn (rows.take i)) ∧ Sm (jn (rows.take i)) ∧ Ext w1 wx)
  case atStart => exact ⟨0, by omega, rfl, Mine.nil _ _, Sm.nil, Ext.refl _⟩
  case round =>
    obtain ⟨i, hig, rfl, hm, hsm, hx⟩ := hrel
    have hlen := HLB.out i
    have HM := Lib.hid hm
    have HX := Lib.hid hx
    have HS := Lib.hid hsm
    cases gk with
    | zero =>
      obtain rfl : i = n := by omega
      rw [HALL.out] at HM
      rw [HALL.out] at hm hsm
      obtain ⟨B3, c3, rfl, hc3, hr3⟩ := hm.slice hsm
      have HR3 := Lib.hid hr3
      obtain ⟨J, hJ⟩ : ∃ J, (jn rows).length = J := ⟨_, rfl⟩
      rw [hJ] at HOF hc3 ⊢
      clear hm hsm hx hig hlen hJ hr3
      go_wp2_with fail
      refine (HOF.out B3 c3 wr HR3.out hc3 (HX1.out.trans HX.out)).mono ?_
      rintro e w9 ⟨V, rfl, hV, hx9⟩
      have HV := Lib.hid hV
      have HX9 := Lib.hid (HX.out.trans hx9)
      have HR9 := Lib.hid (WBlk.ext' HR0.out HX9.out)
      have HI9 := Lib.hid hV.info
      have HO9 := Lib.hid hV.one
      have HZ9 := Lib.hid (show Z.size = V.size from by rw [hV.1]; exact HZ32.out ())
      have HG3 := Lib.hid (setRow_heap _ g0 _ V _ _ HR9.out)
      have HX3 := Lib.hid ((HX1.out.trans HX9.out).setRow (g := g0) (by rw [HW0.out]; exact Nat.le_refl _) V)
      clear hV hx9
      go_wp2_with (with_reducible refine wpList_store_all rfl 25 (.tmp 2) (.tmp 17) rfl g0 Z V rfl rfl HR9.out HI9.out HZ9.out HO9.out ?_)
      exact ⟨rfl, .agg V, results_cell_row Tryd.results14 _ _ g0 25 V (0, 0) _ rfl HG3.out Tryd.underlying25 rfl HI9.out, V, rfl, HV.out, HX3.out⟩
    | succ g =>
      have hi : i < n := by omega
      have hiI : (i : Int) < (n : Int) := by omega
      obtain ⟨b1, o1, R1, c1, rfl, hc1, hl1, hr1⟩ := (HR.out.ext (HX1.out.trans hx)) i (by rw [HN.out]; exact hi)
      have hs := hx.size
      obtain ⟨B3, c3, rfl, hc3, _⟩ := hm.slice hsm
      have HOB := Lib.hid (fun k (e : (Value.slice B3 (jn (rows.take i)).length c3).ownBlock = some k) => (hm.block k e).1)
      have HTI := Lib.hid (cd_layT w1.heap.size _ (jn (rows.take i)) (ro rows i) R1 c1 wr hm hsm hr1 (by omega) (by have := HLS.out i hi; omega) hs)
      have HTKI := Lib.hid (HTK.out i hi)
      have hst := vt_sm (HSM.out i hi)
      obtain ⟨t, ht⟩ : ∃ t, ro rows i = t := ⟨_, rfl⟩
      rw [ht] at hc1 hl1 HTI HTKI hst
      obtain ⟨nt, hnt⟩ : ∃ nt, t.length = nt := ⟨_, rfl⟩
      rw [hnt] at hc1 hl1 HTI
      have HST := Lib.hid hst
      have HIG := Lib.hid hig
      obtain ⟨J, hJ⟩ : ∃ J, (jn (rows.take i)).length = J := ⟨_, rfl⟩
      rw [hJ] at HTI HOB hc3 HM ⊢
      clear hJ
      unfold Lays at HTI
      clear hm hsm hx hr1 ht hnt hst hig hlen
      go_wp2_with fail
      refine HTI.out.mono ?_
      rintro e w7 ⟨v7, rfl, hm7, hg7, _⟩
      rw [← HTKI.out] at hm7
      have HM7 := Lib.hid hm7
      have HX7 := Lib.hid (HX.out.more hg7 (fun k e => HOB.out k e))
      clear hm7 hg7
      go_wp2
      go_roundg g
      case measure => omega
      case rel => exact ⟨i + 1, by have := HIG.out; omega, by go_num, HM7.out, by rw [HTKI.out]; exact sm_app HS.out HST.out, HX7.out⟩
end Go.Proofs.YtfhmafncpodlbaaDoor

/-
  What Less of layer 10 and bytes.Compare do. Conditions: none but that what is held against each other reads as bytes.
-/
namespace Go.Proofs.YtfhmafncpodlbaaDoor
open Go.RowKit
open Pol (co Sm)

/-- The bytes of a list. -/
def b8 (a : List Nat) : ByteArray := ⟨(a.map Nat.toUInt8).toArray⟩
theorem b8_size (a : List Nat) : (b8 a).size = a.length := by simp [b8, ByteArray.size]
theorem b8_at (a : List Nat) (i : Nat) (h : i < a.length) : (b8 a)[i]! = (co a i).toUInt8 := by
  have hs : i < (b8 a).size := by rw [b8_size]; exact h
  rw [getElem!_pos (b8 a) i hs]
  show (b8 a).data[i] = _
  unfold b8 co
  rw [List.getElem?_eq_getElem h]
  show (a.map Nat.toUInt8).toArray[i]'(by simpa using h) = _
  rw [List.getElem_toArray, List.getElem_map]
  rfl
theorem u8_ne {x y : Nat} (hx : x < 256) (hy : y < 256) : (x.toUInt8 != y.toUInt8) = decide (x ≠ y) := by
  by_cases e : x = y
  · subst e; simp
  · have : x.toUInt8 ≠ y.toUInt8 := fun h => e (by
      have := congrArg UInt8.toNat h
      simp only [Nat.toUInt8, UInt8.toNat_ofNat'] at this
      omega)
    simp [this, e]
theorem u8_lt {x y : Nat} (hx : x < 256) (hy : y < 256) : x.toUInt8 < y.toUInt8 ↔ x < y := by
  rw [UInt8.lt_iff_toNat_lt]
  simp only [Nat.toUInt8, UInt8.toNat_ofNat']
  omega
theorem cmp_lss (a b : List Nat) (ha : Sm a) (hb : Sm b) (hl : a.length = b.length) : decide (Extern.BytealgCompare.cmp (b8 a) (b8 b) < 0) = lss a b := by
  have hp : ∀ i, i < a.length → ((b8 a)[i]! != (b8 b)[i]!) = decide (co a i ≠ co b i) := fun i hi => by
    rw [b8_at a i hi, b8_at b i (by omega)]
    exact u8_ne (ha i) (hb i)
  unfold Extern.BytealgCompare.cmp
  rw [b8_size, b8_size, ← hl, Nat.min_self]
  cases h : (List.range a.length).find? (fun i => (b8 a)[i]! != (b8 b)[i]!) with
  | none =>
    rw [List.find?_range_eq_none] at h
    have e : a = b := by
      refine List.ext_getElem hl (fun i h1 h2 => ?_)
      have := h i h1
      rw [hp i h1] at this
      have := of_decide_eq_false (p := co a i ≠ co b i) (by simpa using this)
      have := Classical.not_not.1 this
      unfold co at this
      rw [List.getElem?_eq_getElem h1, List.getElem?_eq_getElem h2] at this
      exact this
    subst e
    rw [lss_self]
    simp
  | some i =>
    rw [List.find?_range_eq_some] at h
    obtain ⟨h1, h2, h3⟩ := h
    have hi : i < a.length := by simpa using h2
    rw [hp i hi] at h1
    have hne := of_decide_eq_true h1
    have hsame : ∀ j, j < i → co a j = co b j := fun j hj => by
      have := h3 j hj
      rw [hp j (by omega)] at this
      exact Classical.not_not.1 (of_decide_eq_false (p := co a j ≠ co b j) (by simpa using this))
    show decide ((if (b8 a)[i]! < (b8 b)[i]! then (-1 : Int) else 1) < 0) = lss a b
    rw [lss_at a b i hl hi hsame hne, b8_at a i hi, b8_at b i (by omega)]
    by_cases hlt : co a i < co b i
    · simp [(u8_lt (ha i) (hb i)).2 hlt, hlt]
    · have : ¬ (co a i).toUInt8 < (co b i).toUInt8 := fun h => hlt ((u8_lt (ha i) (hb i)).1 h)
      simp [this, hlt]
theorem load_b8 {P : Program} (w : World) (a : List Nat) (b o : Nat) (hc : ∀ i, i < a.length → w.cell? ⟨b, o + i, none⟩ = some (.int .u8 ((co a i : Nat) : Int))) (n c : Nat) (hn : a.length = n) :
    (Extern.Bytes.bytesOf (.slice (some ⟨b, o, none⟩) n c)).run P w = .ok (b8 a) w := by
  have hl := Lib.run_loadBytesX (P := P) w (a.map Int.ofNat) ⟨b, o, none⟩ .empty (fun j x hj => by
    rw [List.getElem?_map] at hj
    obtain ⟨y, hy, rfl⟩ := Option.map_eq_some_iff.1 hj
    have hjl := (List.getElem?_eq_some_iff.1 hy).1
    have e : (⟨b, o, none⟩ : Addr).add j = ⟨b, o + j, none⟩ := by unfold Addr.add; split <;> simp_all
    rw [e, hc j hjl]
    unfold co
    rw [hy]
    rfl)
  rw [List.length_map, hn] at hl
  unfold Extern.Bytes.bytesOf
  rw [hl]
  congr 1
  apply ByteArray.ext
  simp [Lib.bytesOf, b8]
theorem sh_compare (a b : List Nat) (ga gb ca cb n : Nat) (w : World) (hca : ∀ i, i < n → w.cell? ⟨ga, i, none⟩ = some (.int .u8 ((co a i : Nat) : Int))) (hcb : ∀ i, i < n → w.cell? ⟨gb, i, none⟩ = some (.int .u8 ((co b i : Nat) : Int))) (ha : a.length = n) (hb : b.length = n) :
    Calls Tryd.prog 28 #[.slice (some ⟨ga, 0, none⟩) n ca, .slice (some ⟨gb, 0, none⟩) n cb] w (fun e w' => e = .returned (.int .i64 (Extern.BytealgCompare.cmp (b8 a) (b8 b))) ∧ w = w') := by
  have hcall : (callFunc 35 #[.slice (some ⟨ga, 0, none⟩) n ca, .slice (some ⟨gb, 0, none⟩) n cb]).run Tryd.prog w = .ok (.value (.int .i64 (Extern.BytealgCompare.cmp (b8 a) (b8 b)))) w := by
    rw [run_callFunc_extern (e := Extern.BytealgCompare.compare) Tryd.func35 (by kernel_rfl) (by kernel_rfl) (by kernel_rfl) (by kernel_rfl)]
    have e1 := load_b8 (P := Tryd.prog) w a ga 0 (fun i hi => by rw [Nat.zero_add]; exact hca i (by omega)) n ca ha
    have e2 := load_b8 (P := Tryd.prog) w b gb 0 (fun i hi => by rw [Nat.zero_add]; exact hcb i (by omega)) n cb hb
    change (Sem.run Tryd.prog (do pure (goInt (Extern.BytealgCompare.cmp (← Extern.Bytes.bytesOf (.slice (some ⟨ga, 0, none⟩) n ca)) (← Extern.Bytes.bytesOf (.slice (some ⟨gb, 0, none⟩) n cb))))) w).andThen _ = _
    simp only [Sem.run_bind, e1, e2, Result.andThen, Sem.run_pure, goInt]
  go_enter Tryd.func28, Tryd.ntmps28
  go_wp2
  go_ret
  exact ⟨rfl, rfl⟩

set_option maxHeartbeats 800000 in
theorem sh_less (c d : Array Value) (a b : List Nat) (w : World) (hc : Dgc c a) (hd : Dgc d b) (ha : a.length = 32) (hb : b.length = 32) (hsa : Sm a) (hsb : Sm b) :
    Calls Tryd.prog 18 #[.agg c, .agg d] w (Tells (.bool (lss a b)) w) := by
  obtain ⟨g, hg⟩ : ∃ g, w.heap.size = g := ⟨_, rfl⟩
  obtain ⟨h, hh⟩ : ∃ h, g + 1 = h := ⟨_, rfl⟩
  have HS := Lib.hid (fun (T U : TypeId) => show TwoD g h a b w ((w.alloc (.cells c T)).alloc (.cells d U)) from by
    rw [← hh, ← hg]; exact TwoD.start w hc hd T U)
  have HCM := Lib.hid (fun W (hW : TwoD g h a b w W) => sh_compare a b g h 32 32 32 W hW.ca hW.cb ha hb)
  have HZ := Lib.hid (cmp_lss a b hsa hsb (by rw [ha, hb]))
  obtain ⟨z, hz⟩ : ∃ z, Extern.BytealgCompare.cmp (b8 a) (b8 b) = z := ⟨_, rfl⟩
  rw [hz] at HCM HZ
  clear hz hc hd ha hb hsa hsb
  go_enter Tryd.func18, Tryd.ntmps18
  go_wp2_with fail
  refine wp_region_plan (TwoD g h a b w) [0, 1, 2] (.yes 0 (.yes 1 (.yes 2 (.one 3 (.one 4 .done))))) (by kernel_rfl) (fun c a a' w e h => ⟨e ▸ h.1, h.2⟩) (by kernel_rfl) ((HS.out _ _).drewN 1) ?_
  refine plan_yes rfl (fun K hK => ?_); go_simp; refine ⟨_, fun _ _ => rfl, hK _ ?_⟩; clear hK K
  refine plan_yes rfl (fun K hK => ?_); go_simp; refine ⟨_, fun _ _ => rfl, hK _ ?_⟩; clear hK K
  refine plan_call rfl (fun K hK => ?_); go_simp; refine ⟨_, _, fun W _ => ⟨rfl, rfl⟩, _, fun W hW => HCM.out W hW, hK _ ?_⟩; clear hK K
  refine plan_one rfl (fun K hK => ?_)
  go_wp2
  refine ⟨fun h => absurd h (by decide), ?_⟩
  refine plan_one rfl (fun K hK => ?_)
  go_wp2
  refine ⟨fun h => absurd h (by decide), ?_⟩
  unfold wpPlan
  go_wp2
  rw [HZ.out]
  go_ret
  exact ⟨rfl, ((HS.out _ _).drewN 1).x⟩
end Go.Proofs.YtfhmafncpodlbaaDoor

/-
  What make([]byte, 0, n) does. Conditions: no more than 2^40 bytes.
-/
namespace Go.Proofs.YtfhmafncpodlbaaDoor
open Go.RowKit
open Pol (co Sm)

set_option maxRecDepth 100000 in
/-- make([]byte, 0, n). -/
theorem run_make_cap (n : Nat) (N : Int) (hN : N = (n : Int)) (hn : n ≤ 1099511627776) (w : World) :
    (Instr.makeSlice 22 (.int .i64 0) (.int .i64 N)).run Tryd.prog w = .ok (.slice (some ⟨w.heap.size, 0, none⟩) 0 n) (w.alloc (.cells (bt n fun _ => 0) 5)) := by
  subst hN
  obtain ⟨i0, hi, hz0, hz1, hz2⟩ := info_parts u8_info
  have h := run_make (P := Tryd.prog) w 22 5 i0 (.int .u8 0) Tryd.underlying22 hi hz0 .i64 .i64 0 n (by omega) (by omega) (by rw [hz2]; omega) (by omega)
  simp only [Int.toNat_natCast, hz1, Nat.mul_one] at h
  rw [h, ← bt_made]
  rfl
theorem mine_made (w : World) (n : Nat) (hn : n ≤ 1099511627776) : Mine (w.alloc (.cells (bt n fun _ => 0) 5)) w.heap.size (.slice (some ⟨w.heap.size, 0, none⟩) 0 n) [] :=
  World.ownsRow_made w (bt n fun _ => 0) n (Nat.le_refl _) (by unfold maxLen; omega) (by rw [bt_size, Nat.mul_one])
end Go.Proofs.YtfhmafncpodlbaaDoor

/-
  Digits of a text, one by one. Conditions: none; no function is named here.
-/
namespace Go.Proofs.YtfhmafncpodlbaaDoor
open Go.RowKit
open Pol (co Sm)

theorem hxb_size (l : List Nat) : (hxb l).size = 2 * l.length := by
  show (hxs l).toArray.size = _
  rw [List.size_toArray, hxs_len]
theorem hxs_at : ∀ (l : List Nat) (i : Nat), i < l.length → (hxs l)[2 * i]? = some (hxd (co l i / 16)) ∧ (hxs l)[2 * i + 1]? = some (hxd (co l i % 16))
  | x :: l, 0, _ => ⟨rfl, rfl⟩
  | x :: l, i + 1, h => by
    have ih := hxs_at l i (by simpa using h)
    rw [Pol.co_succ]
    exact ⟨ih.1, ih.2⟩
  | [], _, h => by simp at h

theorem idxL (L : List UInt8) (k : IntKind) (i : Nat) (v : UInt8) (hv : L[i]? = some v) (W : World) : (Instr.index 9 (.string ⟨L.toArray⟩) (.int k (i : Int))).run Tryd.prog W = .ok (.int .u8 ((v.toNat : Nat) : Int)) W := by
  have hi : i < L.length := (List.getElem?_eq_some_iff.1 hv).1
  have hs : (⟨L.toArray⟩ : ByteArray).size = L.length := by show L.toArray.size = _; simp
  rw [run_index_string W 9 _ k _ Tryd.underlying9]
  rw [dif_pos ⟨by omega, by rw [hs]; omega⟩]
  have e : (⟨L.toArray⟩ : ByteArray)[(i : Int).toNat]'(by rw [hs]; omega) = v := by
    show L.toArray[(i : Int).toNat]'(by simp; omega) = v
    simp only [Int.toNat_natCast, List.getElem_toArray]
    exact (List.getElem?_eq_some_iff.1 hv).2
  rw [e]
def dgs : List UInt8 := [48, 49, 50, 51, 52, 53, 54, 55, 56, 57, 97, 98, 99, 100, 101, 102]
theorem dgs_at : ∀ x, x < 16 → dgs[x]? = some (hxd x) := by decide
end Go.Proofs.YtfhmafncpodlbaaDoor

/-
  What Hex of layer 10 does. Conditions: none but that the digest reads as bytes.
-/
namespace Go.Proofs.YtfhmafncpodlbaaDoor
open Go.RowKit
open Pol (co Sm)

/-- The digits as numbers. -/
def hxn (l : List Nat) : List Nat := (hxs l).map UInt8.toNat
theorem hxn_len (l : List Nat) : (hxn l).length = 2 * l.length := by unfold hxn; rw [List.length_map, hxs_len]
theorem hxn_sm (l : List Nat) : Sm (hxn l) := Pol.co_lt_of fun x hx => by
  unfold hxn at hx
  obtain ⟨y, _, rfl⟩ := List.mem_map.1 hx
  exact y.toNat_lt
theorem hxs_append : ∀ a b : List Nat, hxs (a ++ b) = hxs a ++ hxs b
  | [], _ => rfl
  | x :: a, b => by rw [List.cons_append, hxs, hxs, hxs_append a b]; rfl
theorem hxn_more (l : List Nat) (i : Nat) (h : i < l.length) : hxn (l.take (i + 1)) = hxn (l.take i) ++ [(hxd (co l i / 16)).toNat, (hxd (co l i % 16)).toNat] := by
  unfold hxn
  rw [List.take_succ_eq_append_getElem h, hxs_append, List.map_append]
  have e : co l i = l[i] := by unfold co; rw [List.getElem?_eq_getElem h]; rfl
  rw [e]
  rfl
theorem foldl_push : ∀ (L : List UInt8) (acc : ByteArray), (L.map (fun x => (x.toNat : Int))).foldl (fun (r : ByteArray) n => r.push (UInt8.ofNat n.toNat)) acc = ⟨acc.data ++ L.toArray⟩
  | [], acc => by simp
  | x :: L, acc => by
    rw [List.map_cons, List.foldl_cons, foldl_push L]
    apply ByteArray.ext
    simp [ByteArray.push]
theorem hex_text (w : World) (b o : Nat) (l : List Nat) (n c : Nat) (hn : (hxn l).length = n) (h : Rd w (some ⟨b, o, none⟩) (hxn l)) :
    (Conv.bytesToString (.slice (some ⟨b, o, none⟩) n c)).run Tryd.prog w = .ok (.string (hxb l)) w := by
  have e0 : ((hxs l).map (fun x => (x.toNat : Int))).map (Value.int .u8) = (List.range n).map (fun j => Value.int .u8 ((co (hxn l) j : Nat) : Int)) := by
    apply List.ext_getElem
    · rw [List.length_map, List.length_map, List.length_map, List.length_range, ← hn]; unfold hxn; rw [List.length_map]
    · intro j h1 h2
      have hj : j < (hxs l).length := by simpa using h1
      simp only [List.getElem_map, List.getElem_range]
      congr 2
      unfold hxn co
      rw [List.getElem?_map, List.getElem?_eq_getElem hj]
      rfl
  have hl := run_bytesToString (P := Tryd.prog) w ⟨b, o, none⟩ n c ((hxs l).map (fun x => (x.toNat : Int))) (by
    rw [e0]
    have h2 := run_loadCells (P := Tryd.prog) (w := w) ⟨b, o, none⟩ n (fun j => Value.int .u8 ((co (hxn l) j : Nat) : Int)) (fun j hj => by
      obtain ⟨b', o', e1, hc⟩ := h.2 j (by omega)
      injection e1 with e1
      injection e1 with e2 e3
      subst e2; subst e3
      have e : (⟨b, o, none⟩ : Addr).add j = ⟨b, o + j, none⟩ := by unfold Addr.add; split <;> simp_all
      rw [e]
      exact hc)
    rw [h2])
  rw [hl, foldl_push]
  congr 1
  congr 1
  apply ByteArray.ext
  simp [hxb]

set_option maxRecDepth 100000 in
theorem and15 : ∀ x : Nat, x < 256 → bits .and .u8 (x : Int) 15 = ((x % 16 : Nat) : Int) := by decide
set_option maxHeartbeats 1600000 in
set_option maxRecDepth 100000 in
theorem sh_hex (c : Array Value) (d : List Nat) (w : World) (hc : Dgc c d) (hd : d.length = 32) (hsm : Sm d) :
    Calls Tryd.prog 17 #[.agg c] w (HexS d w) := by
  unfold HexS
  have hi1 : (Tryd.prog.info? 25).map (·.size) = some c.size := by rw [hc.1]; exact zero_digest.2
  have hmk := fun W => run_make_cap 64 64 rfl (by decide) W
  obtain ⟨B64, hB64⟩ : ∃ B, (bt 64 fun _ => 0) = B := ⟨_, rfl⟩
  have HMM := Lib.hid (fun W => mine_made W 64 (by decide))
  rw [hB64] at HMM
  simp only [hB64] at hmk
  have hw1 : Ext w ((w.alloc (.cells c 25)).alloc (.cells B64 5)) := ((Ext.refl w).alloc _).alloc _
  have HX1 := Lib.hid hw1
  have HG1 := Lib.hid (show ((w.alloc (.cells c 25)).alloc (.cells B64 5)).heap[w.heap.size]? = some (.cells c 25 (0, 0)) from by rw [heap_alloc_old _ _ (by simp)]; exact heap_alloc_new w _)
  have HS1 := Lib.hid (show w.heap.size + 1 ≤ ((w.alloc (.cells c 25)).alloc (.cells B64 5)).heap.size from by simp)
  have HM1 := Lib.hid (show Mine ((w.alloc (.cells c 25)).alloc (.cells B64 5)) (w.heap.size + 1) (.slice (some ⟨w.heap.size + 1, 0, none⟩) 0 64) (hxn (d.take 0)) from by
    have h := HMM.out (w.alloc (.cells c 25))
    have e : (w.alloc (.cells c 25)).heap.size = w.heap.size + 1 := by simp
    rw [e] at h
    exact h)
  have HI1 := Lib.hid hi1
  have HCX := Lib.hid (fun (i : Nat) (hi : i < 32) => show ∀ W, (Instr.index 25 (.agg c) (.int .i64 (i : Int))).run Tryd.prog W = .ok (.int .u8 ((co d i : Nat) : Int)) W from fun W => idx_arr Tryd.underlying25 (by kernel_rfl) (by kernel_rfl) ⟨_, rfl⟩ _ i _ hi (hc.2 i hi) W)
  have HDX := Lib.hid (fun (i : Nat) (hi : i < 16) => show ∀ W, (Instr.index 9 (.string { data := #[48, 49, 50, 51, 52, 53, 54, 55, 56, 57, 97, 98, 99, 100, 101, 102] }) (.int .u8 (i : Int))).run Tryd.prog W = .ok (.int .u8 (((hxd i).toNat : Nat) : Int)) W from fun W => idxL dgs .u8 i (hxd i) (dgs_at i hi) W)
  have HMO := Lib.hid (fun i (hi : i < 32) => hxn_more d i (by rw [hd]; exact hi))
  have HSM := Lib.hid (fun i => show co d i < 256 from hsm i)
  have HLN := Lib.hid (fun i (hi : i ≤ 32) => show (hxn (d.take i)).length = 2 * i from by rw [hxn_len, List.length_take, hd, Nat.min_eq_left hi])
  have HAL := Lib.hid (show d.take 32 = d from by rw [← hd, List.take_length])
  clear hc hd hsm hi1 hB64 hw1
  go_enter Tryd.func17, Tryd.ntmps17
  go_wp2_with (with_reducible refine wpList_load_row rfl 25 (.tmp 1) rfl w.heap.size rfl 25 c (0, 0) _ HG1.out Tryd.underlying25 rfl HI1.out ?_)
  obtain ⟨base, hb⟩ : ∃ b, w.heap.size + 1 = b := ⟨_, rfl⟩
  rw [hb] at HM1 HS1 ⊢
  have HB := Lib.hid hb
  generalize (w.alloc (.cells c 25)).alloc (.cells B64 5) = w1 at HX1 HG1 HM1 HS1 ⊢
  clear hb HMM HG1 hmk
  go_loopg [3, 8] 32 (fun gk s3 s8 wx => ∃ i : Nat, i + gk = 32 ∧ s8 = .int .i64 (i : Int) ∧ Mine wx base s3 (hxn (d.take i)) ∧ Ext w wx ∧ base ≤ wx.heap.size)
  case atStart => exact ⟨0, by omega, rfl, HM1.out, HX1.out, HS1.out⟩
  case round =>
    obtain ⟨i, hig, rfl, hm, hx, hbs⟩ := hrel
    have HM := Lib.hid hm
    have HX := Lib.hid hx
    have HBS := Lib.hid hbs
    obtain ⟨B3, c3, rfl, hc3, hr3⟩ := hm.slice (hxn_sm _)
    cases gk with
    | zero =>
      obtain rfl : i = 32 := by omega
      have hl := HLN.out 32 (Nat.le_refl _)
      rw [HAL.out] at hl hr3
      rw [HAL.out, hl]
      obtain ⟨b, o, eB, _⟩ := hr3.2 0 (by rw [hl]; decide)
      subst eB
      have hcv : (convert 22 9 (.slice (some ⟨b, o, none⟩) (2 * 32) c3)).run Tryd.prog wr = .ok (.string (hxb d)) wr := by
        rw [run_convert_bytes_string wr 22 9 5 _ _ _ Tryd.underlying22 (by kernel_rfl) Tryd.underlying9]
        exact hex_text wr b o d _ c3 hl hr3
      clear hr3 hl hc3 HM hm hig
      go_wp2
      go_ret
      exact ⟨rfl, HX.out⟩
    | succ gk =>
      have hi : i < 32 := by omega
      have hiI : (i : Int) < 32 := by omega
      have hix := HCX.out i hi
      have HMI := Lib.hid (HMO.out i hi)
      have hl := HLN.out i (by omega)
      rw [hl] at HM hc3 ⊢
      have HLI := Lib.hid hl
      have hxb := HSM.out i
      obtain ⟨x, hx'⟩ : ∃ x, co d i = x := ⟨_, rfl⟩
      rw [hx'] at hix HMI hxb
      obtain ⟨q, hq⟩ : ∃ q, x / 16 = q := ⟨_, rfl⟩
      obtain ⟨r, hr⟩ : ∃ r, x % 16 = r := ⟨_, rfl⟩
      have e1 : (x : Int) / 16 = (q : Int) := by omega
      have e2 : bits .and .u8 (x : Int) 15 = (r : Int) := by rw [and15 x hxb, hr]
      have hdq := HDX.out q (by omega)
      have hdr := HDX.out r (by omega)
      rw [hq, hr] at HMI
      have hyq := (hxd q).toNat_lt
      have hyr := (hxd r).toNat_lt
      obtain ⟨yq, hyq'⟩ : ∃ y, (hxd q).toNat = y := ⟨_, rfl⟩
      obtain ⟨yr, hyr'⟩ : ∃ y, (hxd r).toNat = y := ⟨_, rfl⟩
      rw [hyq'] at hdq HMI hyq
      rw [hyr'] at hdr HMI hyr
      have HIG := Lib.hid hig
      have HSQ := Lib.hid (show Sm [yq, yr] from Sm.cons (by omega) (Sm.cons (by omega) Sm.nil))
      obtain ⟨L, hL⟩ : ∃ L, 2 * i = L := ⟨_, rfl⟩
      rw [hL] at HM hc3 HLI ⊢
      have hLb : L ≤ 64 := by omega
      clear hm hx hbs hr3 hl hx' hq hr hyq' hyr' hL hig
      go_wp2_with fail
      refine wp_region_plan (AfterT wr) [0, 1, 2, 3, 4, 5, 6, 7] (.yes 0 (.yes 1 (.yes 2 (.yes 3 (.yes 4 (.yes 5 (.yes 6 (.one 7 (.one 8 (.one 9 .done)))))))))) (by kernel_rfl) (fun c a a' w e h => ⟨e ▸ h.1, h.2⟩) (by kernel_rfl) ((Ext.refl wr).drew) ?_
      refine plan_yes rfl (fun K hK => ?_); go_simp; refine ⟨_, fun _ _ => rfl, hK _ ?_⟩; clear hK K
      refine plan_yes rfl (fun K hK => ?_); go_simp; refine ⟨_, fun _ _ => rfl, hK _ ?_⟩; clear hK K
      refine plan_yes rfl (fun K hK => ?_); go_simp; refine ⟨_, fun _ _ => rfl, hK _ ?_⟩; clear hK K
      refine plan_yes rfl (fun K hK => ?_); go_simp; refine ⟨_, fun _ _ => rfl, hK _ ?_⟩; clear hK K
      refine plan_yes rfl (fun K hK => ?_); go_simp; refine ⟨_, fun _ _ => rfl, hK _ ?_⟩; clear hK K
      refine plan_yes rfl (fun K hK => ?_); go_simp; refine ⟨_, fun _ _ => rfl, hK _ ?_⟩; clear hK K
      refine plan_yes rfl (fun K hK => ?_); go_simp; refine ⟨_, fun _ _ => rfl, hK _ ?_⟩; clear hK K
      refine plan_one rfl (fun K hK => ?_)
      go_wp2
      have HXA := Lib.hid (show AfterT wr (World.drew (World.alloc wr (.cells #[.int .u8 (yq : Int), .int .u8 (yr : Int)] 5))) from (Ext.alloc (Ext.refl wr) _).drew)
      refine ⟨fun _ => HXA.out, ?_⟩
      refine plan_one rfl (fun K hK => ?_)
      go_wp2_with (at_builtin; refine wpList_append_rd rfl (.tmp 11) (.tmp 18) rfl base (.slice B3 L c3) (hxn (d.take i)) [yq, yr] rfl (mine_ext HM.out HXA.out) (some ⟨wr.heap.size, 0, none⟩) 2 2 rfl rfl (Rd.ext (rd_lit wr [yq, yr] HSQ.out) ((Ext.refl _).drew)) (by rw [HLI.out]; simp; omega) (by have := HBS.out; simp; omega) ?_; intro v9 w9 hown9 hg9 hat9; rw [← HMI.out] at hown9; have HX9 := Lib.hid ((HX.out.trans HXA.out).more hg9 (fun q hq => by have := (HM.out.block q hq).1; have := HB.out; omega)); have HM9 := Lib.hid hown9; have HS9 := Lib.hid (show base ≤ w9.heap.size from by have := hg9.size; have := HXA.out.size; have := HBS.out; omega); clear hown9 hg9 hat9)
      refine ⟨fun h => absurd h (by decide), ?_⟩
      refine plan_one rfl (fun K hK => ?_)
      go_wp2
      refine ⟨fun h => absurd h (by decide), ?_⟩
      unfold wpPlan
      go_wp2
      go_roundg gk
      case measure => omega
      case rel => exact ⟨i + 1, by have := HIG.out; omega, by go_num, HM9.out, HX9.out, HS9.out⟩
end Go.Proofs.YtfhmafncpodlbaaDoor

/-
  What layer 10's own functions do, as one statement. Conditions: no more than 2^16 bytes; the constants lie where they were laid.
-/
namespace Go.Proofs.YtfhmafncpodlbaaDoor
open Go.RowKit
open Pol (co Sm)

theorem shaSaid : ShaSaid where
  of b A c w hg hr hc hl := sh_of b A c w hg hr hc hl
  parts rows A c w hg hr _ h2 h3 h4 := sh_parts rows A c w hg hr h2 h3 h4
  hex c d w hc hd hs := sh_hex c d w hc hd hs
  less c d a b w hc hd ha hb hsa hsb := sh_less c d a b w hc hd ha hb hsa hsb
end Go.Proofs.YtfhmafncpodlbaaDoor

/-
  What the listed variables of layer 10 are in memory. Conditions: none.
-/
namespace Go.Proofs.YtfhmafncpodlbaaDoor
open Go.RowKit Go.ChangeShapes Go.WideShapes Go.ChangeAt
open Pol (co Sm)

def laid10 : List (String × DataW Unit) := [("shroud/sha.start", Rows.laid_shroud_sha_start), ("shroud/sha.constants", Rows.laid_shroud_sha_constants)]
theorem dt_of_trod {H : Type} {enc : TypeId × Value → H} {W : World} {base : Nat} {sp : Nat → Bool} {held : Bool} {fuel : Nat} {t e : TypeId} {n : Nat} {cs : Array Value} {l : List Nat} {p : List MemPlace}
    (ht : Tryd.prog.underlying t = some (.array n e)) (he : Tryd.prog.underlying e = some (.int .u32)) (hc : Tryd.prog.cellsOf e = 1) (hn : Tryd.prog.cellsOf t = n) (hl : l.length = n)
    (h : DataW.trod enc Tryd.prog W base sp held fuel t cs.toList = some (.agg (l.map fun x : Nat => .lit (.int .u32 ((x : Nat) : Int))), p)) : cs = dt n (co l) := by
  obtain ⟨xs, m1, rfl, hx1, hlen, hlx, hel⟩ := DataW.trod_array ht h
  injection hx1 with hx1 _
  injection hx1 with hx1
  rw [hn] at hlen
  have hsz : cs.size = n := by simpa using hlen
  apply Array.ext
  · rw [dt_size, hsz]
  · intro i h1 h2
    have hi : i < n := by omega
    have he' := hel i hi
    rw [hc, Nat.mul_one] at he'
    have e1 : (cs.toList.drop i).take 1 = [cs[i]] := by
      rw [List.drop_eq_getElem_cons (by simpa using h1)]
      simp
    rw [e1, List.getElem?_eq_getElem (by omega)] at he'
    obtain ⟨k, ek, ex, _⟩ := DataW.trod_int he he'
    have hm : (l.map fun x : Nat => DataW.lit (H := H) (.int .u32 ((x : Nat) : Int)))[i]? = (xs.map (·.1))[i]? := by rw [hx1]
    rw [List.getElem?_map, List.getElem?_map, List.getElem?_eq_getElem (by omega), List.getElem?_eq_getElem (by omega)] at hm
    simp only [Option.map_some, ex] at hm
    injection hm with hm
    injection hm with hm
    injection hm with _ hm
    injection ek with ek
    have hd := dt_at n (co l) i hi
    rw [Array.getElem?_eq_getElem h2] at hd
    injection hd with hd
    rw [ek, hd, ← hm]
    unfold co
    rw [List.getElem?_eq_getElem (by omega)]
    rfl
theorem start_is : (Rows.laid_shroud_sha_start : DataW Unit) = .agg (HH.map fun x : Nat => .lit (.int .u32 ((x : Nat) : Int))) := by rw [HH_is]; rfl
set_option maxRecDepth 100000 in
theorem constants_is : (Rows.laid_shroud_sha_constants : DataW Unit) = .agg (KK.map fun x : Nat => .lit (.int .u32 ((x : Nat) : Int))) := by rw [KK_is]; rfl
theorem row_of_cell {P : Program} {W : World} {g : Nat} {n : String} {cs : Array Value} (hg : P.globalNamed n = some g) (h : W.var? P n = some cs) (hk : ∃ c t, W.heap[g]? = some (.cells c t (0, 0))) : ∃ t, W.heap[g]? = some (.cells cs t (0, 0)) := by
  obtain ⟨c, t, hc⟩ := hk
  simp only [World.var?, hg, Option.bind_some, hc] at h
  injection h with h
  subst h
  exact ⟨t, hc⟩
theorem gl_of_laid {W : World} (h : laidMetH Tryd.prog laid10 W) : GL W := by
  rw [MakeChecks.laidMetH_plain _ _ _ (by kernel_rfl)] at h
  obtain ⟨ps, ⟨g0, t0, cs0, f0, p0, q0, hg0, ht0, hv0, hd0, ⟨g1, t1, cs1, f1, p1, q1, hg1, ht1, hv1, hd1, _, hq0⟩, hps⟩, _, hall⟩ := h
  obtain rfl := Option.some.inj ((show Tryd.prog.globalNamed "shroud/sha.start" = some 0 by kernel_rfl).symm.trans hg0)
  obtain rfl := Option.some.inj ((show Tryd.prog.globalNamed "shroud/sha.constants" = some 1 by kernel_rfl).symm.trans hg1)
  obtain rfl := Option.some.inj ((show (Tryd.prog.globals[0]?).map (·.type) = some 39 by kernel_rfl).symm.trans ht0)
  obtain rfl := Option.some.inj ((show (Tryd.prog.globals[1]?).map (·.type) = some 53 by kernel_rfl).symm.trans ht1)
  rw [start_is] at hd0
  rw [constants_is] at hd1
  have e0 := dt_of_trod Tryd.underlying39 Tryd.underlying38 (by kernel_rfl) (by kernel_rfl) (by rw [HH_is]; rfl) hd0
  have e1 := dt_of_trod Tryd.underlying53 Tryd.underlying38 (by kernel_rfl) (by kernel_rfl) (by rw [KK_is]; rfl) hd1
  have m0 : MemPlace.cell 0 0 ∈ ps := by
    rw [hps, e0, dt_size]
    simp [MemPlace.row]
  have m1 : MemPlace.cell 1 0 ∈ ps := by
    rw [hps, hq0, e1, dt_size]
    simp [MemPlace.row]
  have r0 := row_of_cell hg0 hv0 (hall _ _ m0).1
  have r1 := row_of_cell hg1 hv1 (hall _ _ m1).1
  rw [e0] at r0
  rw [e1] at r1
  exact ⟨r0, r1⟩
/-- The door's own heap meets the condition. -/
theorem door_met10 (os : Os) (args : Array Value) : laidMetH Tryd.prog laid10 ((World.doorLaid Tryd.prog 1000 os).forCall (fun _ _ => 0) ⟨#[], args, []⟩).memory :=
  laidMetH_of_parts3 (fuel := 8) (laidMet_of_run' 8 (by kernel_rfl) (by kernel_rfl)) (by kernel_rfl) (by kernel_rfl)
end Go.Proofs.YtfhmafncpodlbaaDoor

/-
  An argument that is a digest reads as thirty-two bytes. Conditions: none.
-/
namespace Go.Proofs.YtfhmafncpodlbaaDoor
open Go.RowKit
open Go.ChangeShapes Go.WideShapes Go.ChangeAt
open Pol (co Sm)

theorem okWide_digest {W : World} {r : Reach} {b0 : Nat} {v : Value} (h : Value.okWide Tryd.prog W r b0 25 v) : ∃ c : Array Value, v = .agg c := by
  simp only [Value.okWide, Tryd.underlying25] at h
  obtain ⟨cs, h1, _⟩ := h
  exact ⟨cs, h1⟩
theorem open_digest {H : Type} {enc : TypeId × Value → H} {W : World} {base : Nat} {sp : Nat → Bool} {held : Bool} {fuel : Nat} {c : Array Value} {d : DataW H} {p : List MemPlace}
    (h : DataW.trod enc Tryd.prog W base sp held fuel 25 c.toList = some (d, p)) : ∃ l, Dgc c l ∧ l.length = 32 ∧ Sm l := by
  obtain ⟨xs, m1, rfl, hx1, hlen, hlx, hel⟩ := DataW.trod_array Tryd.underlying25 h
  rw [show Tryd.prog.cellsOf 25 = 32 from by kernel_rfl] at hlen
  rw [show Tryd.prog.cellsOf 5 = 1 from by kernel_rfl] at hel
  have hsz : c.size = 32 := by simpa using hlen
  have hc : ∀ i, i < 32 → ∃ k : Nat, k < 256 ∧ c[i]? = some (.int .u8 (k : Int)) := fun i hi => by
    have he' := hel i hi
    rw [Nat.mul_one] at he'
    have e1 : (c.toList.drop i).take 1 = [c[i]'(by omega)] := by
      rw [List.drop_eq_getElem_cons (by simp; omega)]
      simp
    rw [e1, List.getElem?_eq_getElem (by omega)] at he'
    obtain ⟨k, ek, _, wk⟩ := DataW.trod_int Tryd.underlying5 he'
    injection ek with ek
    obtain ⟨x, rfl, hx⟩ := nat_u8 wk
    exact ⟨x, hx, by rw [Array.getElem?_eq_getElem (by omega), ek]⟩
  let f : Nat → Nat := fun i => match c[i]? with | some (.int .u8 k) => k.toNat | _ => 0
  have hf : ∀ i, i < 32 → f i < 256 ∧ c[i]? = some (.int .u8 ((f i : Nat) : Int)) := fun i hi => by
    obtain ⟨k, hk, e⟩ := hc i hi
    have : f i = k := by show (match c[i]? with | some (.int .u8 k) => k.toNat | _ => 0) = k; rw [e]; simp
    rw [this]
    exact ⟨hk, e⟩
  refine ⟨tab 32 f, ⟨hsz, fun i hi => ?_⟩, tab_len _ _, tab_sm _ _ fun i hi => (hf i hi).1⟩
  rw [co_tab, if_pos hi]
  exact (hf i hi).2
end Go.Proofs.YtfhmafncpodlbaaDoor

/-
  The law ShaHex, walked, under what layer 10's functions are to do. Conditions: none.
-/
namespace Go.Proofs.YtfhmafncpodlbaaDoor
open Go.RowKit
open Pol (co Sm)

set_option maxHeartbeats 1600000 in
set_option maxRecDepth 100000 in
theorem hex10_walk (C : ShaSaid) (c : Array Value) (a : List Nat) (w : World) (hgl : GL w) (hc : Dgc c a) (ha : a.length = 32) (hsa : Sm a) :
    Calls Tryd.prog 5 #[.agg c] w (Holds w) := by
  have HAW := Lib.hid (fun W (h : Ext w W) => awake10 C W (hgl.ext h))
  have HHA := Lib.hid (fun W => C.hex c a W hc ha hsa)
  have hi1 : (Tryd.prog.info? 25).map (·.size) = some c.size := by rw [hc.1]; exact zero_digest.2
  obtain ⟨g, hg⟩ : ∃ g, w.heap.size = g := ⟨_, rfl⟩
  obtain ⟨W0, hW0⟩ : ∃ W, w.alloc (.cells c 25) = W := ⟨_, rfl⟩
  have x0 : Ext w W0 := by rw [← hW0]; exact (Ext.refl w).alloc _
  have g1 : W0.heap[g]? = some (.cells c 25 (0, 0)) := by rw [← hW0, ← hg]; exact heap_alloc_new w _
  have FA := Lib.hid (show ∀ W, AfterH W0 W → W.heap[g]? = some (.cells c 25 (0, 0)) from fun W hW => (Ext.below hW).block g (by have := (Array.getElem?_eq_some_iff.1 g1).1; exact this) |>.trans g1)
  have HI1 := Lib.hid hi1
  have CA := Lib.hid (show ∀ W, AfterH W0 W → ∀ i, i < 32 → W.cell? ⟨g, i, none⟩ = some (.int .u8 ((co a i : Nat) : Int)) from fun W hW i hi => by
    rw [cell_of_row W g i _ _ _ ((Ext.below hW).block g (by have := (Array.getElem?_eq_some_iff.1 g1).1; exact this) |>.trans g1)]
    exact hc.2 i hi)
  have HX0 := Lib.hid x0
  have HG := Lib.hid hg
  have HW0 := Lib.hid hW0
  have HSZ := Lib.hid (show (hxb a).size = 64 from by rw [hxb_size, ha])
  have HAT := Lib.hid (fun i (hi : i < 32) => hxs_at a i (by rw [ha]; exact hi))
  have HSM := Lib.hid hsa
  clear C hgl hc ha hsa hi1 x0 g1 hg hW0
  go_enter Tryd.func5, Tryd.ntmps5
  go_wp2_with fail
  rw [HW0.out, HG.out]
  refine (HAW.out _ HX0.out).mono ?_
  rintro e w1 ⟨rfl, hx1⟩
  have HX1 := Lib.hid hx1
  have HA1 := Lib.hid (FA.out w1 hx1)
  clear hx1
  go_wp2_with (with_reducible refine wpList_load_row rfl 25 (.tmp 1) rfl g rfl 25 c (0, 0) _ HA1.out Tryd.underlying25 rfl HI1.out ?_)
  refine (HHA.out _).mono ?_
  rintro e w2 ⟨rfl, hx2⟩
  have HX2 := Lib.hid (HX1.out.trans hx2)
  obtain ⟨s, hs⟩ : ∃ s, hxb a = s := ⟨_, rfl⟩
  have hsz : s.size = 64 := by rw [← hs]; exact HSZ.out
  rw [hs]
  have HS := Lib.hid hs
  clear hx2 hs
  go_wp2_with fail
  have IS := Lib.hid (fun (i : Nat) (v : UInt8) (hv : (hxs a)[i]? = some v) => show ∀ W, (Instr.index 9 (.string s) (.int .i64 (i : Int))).run Tryd.prog W = .ok (.int .u8 ((v.toNat : Nat) : Int)) W from fun W => by
    rw [← HS.out]; exact idxL (hxs a) .i64 i v hv W)
  have ID := Lib.hid (fun (i : Nat) (hi : i < 16) => show ∀ W, (Instr.index 9 (.string { data := #[48, 49, 50, 51, 52, 53, 54, 55, 56, 57, 97, 98, 99, 100, 101, 102] }) (.int .u8 (i : Int))).run Tryd.prog W = .ok (.int .u8 (((hxd i).toNat : Nat) : Int)) W from fun W => idxL dgs .u8 i (hxd i) (dgs_at i hi) W)
  go_loopg [13] 32 (fun gk s13 wx => ∃ k q : Nat, k + gk = 32 ∧ s13 = .int .i64 (k : Int) ∧ wx = w2.drewN q)
  case atStart => exact ⟨0, 0, by omega, rfl, rfl⟩
  case round =>
    obtain ⟨k, q, hkg, rfl, rfl⟩ := hrel
    cases gk with
    | zero =>
      have hk : ¬ ((k : Int) < 32) := by omega
      have d1 : decide ((k : Int) < 32) = false := decide_eq_false hk
      clear hkg hk
      go_wp2
      go_ret
      exact ⟨rfl, (HX0.out.trans HX2.out).drewN q⟩
    | succ gk =>
      have hk : k < 32 := by omega
      have hkI : (k : Int) < 32 := by omega
      have hca := CA.out w2 HX2.out k hk
      have hx256 := HSM.out k
      obtain ⟨h1, h2⟩ := HAT.out k hk
      obtain ⟨x, hx⟩ : ∃ x, co a k = x := ⟨_, rfl⟩
      rw [hx] at hca hx256 h1 h2
      obtain ⟨k2, hk2⟩ : ∃ t, 2 * k = t := ⟨_, rfl⟩
      obtain ⟨k3, hk3⟩ : ∃ t, 2 * k + 1 = t := ⟨_, rfl⟩
      rw [hk3] at h2
      rw [hk2] at h1
      have m1 : IntKind.i64.wrap (2 * (k : Int)) = (k2 : Int) := by rw [IntWalk.i64_in _ (by omega)]; omega
      have m1' : 2 * (k : Int) = (k2 : Int) := by omega
      have m2 : IntKind.i64.wrap ((k2 : Int) + 1) = (k3 : Int) := by rw [IntWalk.i64_in _ (by omega)]; omega
      have m2' : (k2 : Int) + 1 = (k3 : Int) := by omega
      obtain ⟨hi, hhi⟩ : ∃ t, x / 16 = t := ⟨_, rfl⟩
      obtain ⟨lo, hlo⟩ : ∃ t, x % 16 = t := ⟨_, rfl⟩
      rw [hhi] at h1
      rw [hlo] at h2
      have n1 : (x : Int).tdiv 16 = (hi : Int) := by rw [Int.tdiv_eq_ediv_of_nonneg (by omega)]; omega
      have n1' : (x : Int) / 16 = (hi : Int) := by omega
      have n2 : (x : Int).tmod 16 = (lo : Int) := by rw [Int.tmod_eq_emod_of_nonneg (by omega)]; omega
      have n2' : (x : Int) % 16 = (lo : Int) := by omega
      have w1 : IntKind.u8.wrap (hi : Int) = (hi : Int) := IntWalk.u8_in _ (by omega)
      have i1 := IS.out k2 _ h1
      have i2 := IS.out k3 _ h2
      have i3 := ID.out hi (by omega)
      have i4 := ID.out lo (by omega)
      obtain ⟨p, hp⟩ : ∃ t, (hxd hi).toNat = t := ⟨_, rfl⟩
      obtain ⟨r, hr⟩ : ∃ t, (hxd lo).toNat = t := ⟨_, rfl⟩
      rw [hp] at i1 i3
      rw [hr] at i2 i4
      have HKG := Lib.hid hkg
      clear h1 h2 hx hk2 hk3 hhi hlo hp hr hkg
      have hca2 : (w2.drewN q).cell? ⟨g, k, none⟩ = some (.int .u8 (x : Int)) := hca
      go_wp2
      go_quiet (fail)
      go_wp2
      go_roundg gk
      case measure => omega
      case rel => exact ⟨k + 1, _, by have := HKG.out; omega, by go_num, rfl⟩
end Go.Proofs.YtfhmafncpodlbaaDoor

/-
  The law ShaLess, walked, under what layer 10's functions are to do. Conditions: none.
-/
namespace Go.Proofs.YtfhmafncpodlbaaDoor
open Go.RowKit
open Pol (co Sm)

section
variable {P : Program} {ops : Array Oper} {C : World → Prop} {Q : Act → Prop}
theorem wpQuiet_load_g {o : Oper} {rest : List Oper} {a : Act} (hw : Region.wanted o (yielded ops a.tmps) = true) (ty : TypeId) (x : Operand) (ho : o.op = .load ty x) (v : Value)
    (hrun : ∀ w, C w → (Instr.loadAt ty (a.eval x)).run P w = .ok v w) (h : wpQuiet P ops C Q rest (a.put o.dst v)) : wpQuiet P ops C Q (o :: rest) a := by
  unfold wpQuiet
  rw [if_pos hw]
  refine ⟨v, fun w hw => ?_, h⟩
  unfold Oper.quietAt
  simp only [execOp, ho, Sem.run_bind, hrun w hw, Result.andThen, Sem.run_pure]
  exact ⟨rfl, rfl⟩
end
set_option maxHeartbeats 1600000 in
set_option maxRecDepth 100000 in
theorem less10_walk (C : ShaSaid) (c d e0 : Array Value) (a b z : List Nat) (w : World) (hgl : GL w) (hc : Dgc c a) (hd : Dgc d b) (he : Dgc e0 z) (ha : a.length = 32) (hb : b.length = 32) (hz : z.length = 32) (hsa : Sm a) (hsb : Sm b) (hsz : Sm z) :
    Calls Tryd.prog 6 #[.agg c, .agg d, .agg e0] w (Holds w) := by
  have HAW := Lib.hid (fun W (h : Ext w W) => awake10 C W (hgl.ext h))
  have HHA := Lib.hid (fun W => C.hex c a W hc ha hsa)
  have HHB := Lib.hid (fun W => C.hex d b W hd hb hsb)
  have HLAB := Lib.hid (fun W => C.less c d a b W hc hd ha hb hsa hsb)
  have HLBA := Lib.hid (fun W => C.less d c b a W hd hc hb ha hsb hsa)
  have HLBZ := Lib.hid (fun W => C.less d e0 b z W hd he hb hz hsb hsz)
  have HLAZ := Lib.hid (fun W => C.less c e0 a z W hc he ha hz hsa hsz)
  have HRAB := Lib.hid (fun W => ref10_less c d a b W hc hd ha hb)
  have HEQ := Lib.hid (fun W => run_eq_dgc hc hd ha hb hsa hsb W)
  have HBL := Lib.hid (hxs_less a b (by omega) hsa hsb)
  have HTR := Lib.hid (fun h1 h2 => lss_trans a b z h1 h2)
  have HAS := Lib.hid (fun h => lss_asym a b h)
  have HTO := Lib.hid (fun h1 h2 => lss_total a b (by omega) h1 h2)
  have HSF := Lib.hid (lss_self a)
  have hi1 : (Tryd.prog.info? 25).map (·.size) = some c.size := by rw [hc.1]; exact zero_digest.2
  have hi2 : (Tryd.prog.info? 25).map (·.size) = some d.size := by rw [hd.1]; exact zero_digest.2
  have hi3 : (Tryd.prog.info? 25).map (·.size) = some e0.size := by rw [he.1]; exact zero_digest.2
  obtain ⟨g, hg⟩ : ∃ g, w.heap.size = g := ⟨_, rfl⟩
  obtain ⟨h, hh⟩ : ∃ h, g + 1 = h := ⟨_, rfl⟩
  obtain ⟨k, hk⟩ : ∃ k, h + 1 = k := ⟨_, rfl⟩
  obtain ⟨Wa, hWa⟩ : ∃ W, w.alloc (.cells c 25) = W := ⟨_, rfl⟩
  obtain ⟨Wb, hWb⟩ : ∃ W, Wa.alloc (.cells d 25) = W := ⟨_, rfl⟩
  obtain ⟨W0, hW0⟩ : ∃ W, Wb.alloc (.cells e0 25) = W := ⟨_, rfl⟩
  have sa : Wa.heap.size = h := by rw [← hWa]; simp; omega
  have sb : Wb.heap.size = k := by rw [← hWb]; simp; omega
  have xa : Ext w Wa := by rw [← hWa]; exact (Ext.refl w).alloc _
  have xb : Ext Wa Wb := by rw [← hWb]; exact (Ext.refl Wa).alloc _
  have x0 : Ext Wb W0 := by rw [← hW0]; exact (Ext.refl Wb).alloc _
  have g1 : Wa.heap[g]? = some (.cells c 25 (0, 0)) := by rw [← hWa, ← hg]; exact heap_alloc_new w _
  have g2 : Wb.heap[h]? = some (.cells d 25 (0, 0)) := by rw [← hWb, ← sa]; exact heap_alloc_new Wa _
  have g3 : W0.heap[k]? = some (.cells e0 25 (0, 0)) := by rw [← hW0, ← sb]; exact heap_alloc_new Wb _
  have LA := Lib.hid (show ∀ W, AfterH W0 W → (Instr.loadAt 25 (.pointer (some ⟨g, 0, none⟩))).run Tryd.prog W = .ok (.agg c) W from fun W hW => run_load_all W g 25 _ 32 5 Tryd.underlying25 (((xb.trans x0).trans hW).below.block g (by have := (Array.getElem?_eq_some_iff.1 g1).1; exact this) |>.trans g1) hi1)
  have LB := Lib.hid (show ∀ W, AfterH W0 W → (Instr.loadAt 25 (.pointer (some ⟨h, 0, none⟩))).run Tryd.prog W = .ok (.agg d) W from fun W hW => run_load_all W h 25 _ 32 5 Tryd.underlying25 ((x0.trans hW).below.block h (by have := (Array.getElem?_eq_some_iff.1 g2).1; exact this) |>.trans g2) hi2)
  have LC := Lib.hid (show ∀ W, AfterH W0 W → (Instr.loadAt 25 (.pointer (some ⟨k, 0, none⟩))).run Tryd.prog W = .ok (.agg e0) W from fun W hW => run_load_all W k 25 _ 32 5 Tryd.underlying25 ((Ext.below hW).block k (by have := (Array.getElem?_eq_some_iff.1 g3).1; exact this) |>.trans g3) hi3)
  have HX0 := Lib.hid ((xa.trans xb).trans x0)
  have HG := Lib.hid hg
  have HH := Lib.hid hh
  have HK := Lib.hid hk
  have HW0 := Lib.hid (show ((w.alloc (.cells c 25)).alloc (.cells d 25)).alloc (.cells e0 25) = W0 from by rw [hWa, hWb, hW0])
  clear C hgl hc hd he ha hb hz hsa hsb hsz hi1 hi2 hi3 hWa hWb hW0 sa sb xa xb x0 g1 g2 g3 hg hh hk
  go_enter Tryd.func6, Tryd.ntmps6
  go_wp2_with fail
  rw [HW0.out, HG.out, HH.out, HK.out]
  refine (HAW.out _ HX0.out).mono ?_
  rintro e w1 ⟨rfl, hx1⟩
  have HX1 := Lib.hid hx1
  clear hx1
  obtain ⟨x, hx⟩ : ∃ x, lss a b = x := ⟨_, rfl⟩
  obtain ⟨y, hy⟩ : ∃ y, lss b a = y := ⟨_, rfl⟩
  obtain ⟨t, ht⟩ : ∃ t, lss b z = t := ⟨_, rfl⟩
  obtain ⟨u, hu⟩ : ∃ u, lss a z = u := ⟨_, rfl⟩
  obtain ⟨sa, hsa⟩ : ∃ s, hxb a = s := ⟨_, rfl⟩
  obtain ⟨sb, hsb⟩ : ∃ s, hxb b = s := ⟨_, rfl⟩
  have qs : Op.bytesLess sa.toList sb.toList = x := by rw [← hsa, ← hsb, hxb_list, hxb_list, HBL.out, hx]
  have KAB := Lib.hid (show ∀ u0 W, AfterH u0 W → Calls Tryd.prog 18 #[.agg c, .agg d] W (fun e w' => e = .returned (.bool x) ∧ AfterH u0 w') from fun u0 W hW => (HLAB.out W).mono fun _ _ h => ⟨by rw [h.1, hx], Ext.trans hW h.2⟩)
  have KBA := Lib.hid (show ∀ u0 W, AfterH u0 W → Calls Tryd.prog 18 #[.agg d, .agg c] W (fun e w' => e = .returned (.bool y) ∧ AfterH u0 w') from fun u0 W hW => (HLBA.out W).mono fun _ _ h => ⟨by rw [h.1, hy], Ext.trans hW h.2⟩)
  have KBZ := Lib.hid (show ∀ u0 W, AfterH u0 W → Calls Tryd.prog 18 #[.agg d, .agg e0] W (fun e w' => e = .returned (.bool t) ∧ AfterH u0 w') from fun u0 W hW => (HLBZ.out W).mono fun _ _ h => ⟨by rw [h.1, ht], Ext.trans hW h.2⟩)
  have KAZ := Lib.hid (show ∀ u0 W, AfterH u0 W → Calls Tryd.prog 18 #[.agg c, .agg e0] W (fun e w' => e = .returned (.bool u) ∧ AfterH u0 w') from fun u0 W hW => (HLAZ.out W).mono fun _ _ h => ⟨by rw [h.1, hu], Ext.trans hW h.2⟩)
  have KR := Lib.hid (show ∀ u0 W, AfterH u0 W → Calls Tryd.prog 19 #[.agg c, .agg d] W (fun e w' => e = .returned (.bool x) ∧ AfterH u0 w') from fun u0 W hW => (HRAB.out W).mono fun _ _ h => ⟨by rw [h.1, hx], Ext.trans hW h.2⟩)
  have KHA := Lib.hid (show ∀ u0 W, AfterH u0 W → Calls Tryd.prog 17 #[.agg c] W (fun e w' => e = .returned (.string sa) ∧ AfterH u0 w') from fun u0 W hW => (HHA.out W).mono fun _ _ h => ⟨by rw [h.1, hsa], Ext.trans hW h.2⟩)
  have KHB := Lib.hid (show ∀ u0 W, AfterH u0 W → Calls Tryd.prog 17 #[.agg d] W (fun e w' => e = .returned (.string sb) ∧ AfterH u0 w') from fun u0 W hW => (HHB.out W).mono fun _ _ h => ⟨by rw [h.1, hsb], Ext.trans hW h.2⟩)
  obtain ⟨q, hq⟩ : ∃ q, decide (a = b) = q := ⟨_, rfl⟩
  have qd : ∀ W, (binOp .eql 25 (.agg c) (.agg d)).run Tryd.prog W = .ok (.bool q) W := fun W => by rw [HEQ.out, hq]
  have HV := Lib.hid (show (x = true ∧ y = false ∧ q = false ∧ (t = true → u = true)) ∨ (x = false ∧ y = true ∧ q = false) ∨ (x = false ∧ y = false ∧ q = true) from by
    cases hx' : lss a b with
    | true =>
      refine .inl ⟨by rw [← hx, hx'], by rw [← hy]; exact HAS.out hx', ?_, fun h => by rw [← hu]; exact HTR.out hx' (by rw [ht, h])⟩
      rw [← hq]
      exact decide_eq_false (fun e => by rw [← e, HSF.out] at hx'; cases hx')
    | false =>
      cases hy' : lss b a with
      | true =>
        refine .inr (.inl ⟨by rw [← hx, hx'], by rw [← hy, hy'], ?_⟩)
        rw [← hq]
        exact decide_eq_false (fun e => by rw [← e, HSF.out] at hy'; cases hy')
      | false => exact .inr (.inr ⟨by rw [← hx, hx'], by rw [← hy, hy'], by rw [← hq]; exact decide_eq_true (HTO.out hx' hy')⟩))
  have HX2 := Lib.hid (HX0.out.trans HX1.out)
  have M1 := Lib.hid (fun W (h : AfterH w1 W) => (show AfterH W0 W from HX1.out.trans h))
  clear hx hy ht hu hsa hsb hq HLAB HLBA HLBZ HLAZ HRAB HHA HHB HEQ HBL HTR HAS HTO HSF
  go_wp2
  refine wp_region_quiet (C := AfterH w1) (by kernel_rfl) (by kernel_rfl) (show AfterH w1 w1.drew from (Ext.refl w1).drew) ?_
  refine wpQuiet_load rfl 25 (.tmp 3) rfl (.agg c) (fun W hW => LA.out W (M1.out W hW)) ?_
  refine wpQuiet_load rfl 25 (.tmp 4) rfl (.agg d) (fun W hW => LB.out W (M1.out W hW)) ?_
  refine wpQuiet_step (fun K hK => ?_); go_simp; refine ⟨_, fun W hW => KAB.out w1 W hW, hK _ ?_⟩; clear hK K
  refine wpQuiet_load rfl 25 (.tmp 4) rfl (.agg d) (fun W hW => LB.out W (M1.out W hW)) ?_
  refine wpQuiet_load rfl 25 (.tmp 3) rfl (.agg c) (fun W hW => LA.out W (M1.out W hW)) ?_
  refine wpQuiet_step (fun K hK => ?_); go_simp; refine ⟨_, fun W hW => KBA.out w1 W hW, hK _ ?_⟩; clear hK K
  repeat (refine wpQuiet_step (fun K hK => ?_); go_simp; refine ⟨_, fun _ _ => rfl, hK _ ?_⟩; clear hK K)
  refine wpQuiet_nil ?_
  intro w2 hx2
  have M2 := Lib.hid (fun W (h : AfterH w2 W) => (show AfterH W0 W from HX1.out.trans (Ext.trans hx2 h)))
  have HX3 := Lib.hid (HX2.out.trans hx2)
  clear hx2
  go_wp2
  rcases HV.out with ⟨rfl, rfl, rfl, htu⟩ | ⟨rfl, rfl, rfl⟩ | ⟨rfl, rfl, rfl⟩
  · cases t with
    | true =>
      obtain rfl := htu rfl
      clear HV
      refine wp_region_quiet (C := AfterH w2) (by kernel_rfl) (by kernel_rfl) (show AfterH w2 w2.drew from (Ext.refl w2).drew) ?_
      refine wpQuiet_step (fun K hK => ?_); go_simp; refine ⟨_, fun _ _ => rfl, hK _ ?_⟩; clear hK K
      refine wpQuiet_load_g (by first | rfl | go_simp) 25 (.tmp 3) rfl (.agg c) (fun W hW => LA.out W (M2.out W hW)) ?_
      refine wpQuiet_load_g (by first | rfl | go_simp) 25 (.tmp 4) rfl (.agg d) (fun W hW => LB.out W (M2.out W hW)) ?_
      refine wpQuiet_step (fun K hK => ?_); go_simp; refine ⟨_, fun W hW => KR.out w2 W hW, hK _ ?_⟩; clear hK K
      refine wpQuiet_step (fun K hK => ?_); go_simp; refine ⟨_, fun _ _ => rfl, hK _ ?_⟩; clear hK K
      refine wpQuiet_step (fun K hK => ?_); go_simp; refine ⟨_, fun _ _ => rfl, hK _ ?_⟩; clear hK K
      refine wpQuiet_load_g (by first | rfl | go_simp) 25 (.tmp 3) rfl (.agg c) (fun W hW => LA.out W (M2.out W hW)) ?_
      refine wpQuiet_load_g (by first | rfl | go_simp) 25 (.tmp 4) rfl (.agg d) (fun W hW => LB.out W (M2.out W hW)) ?_
      refine wpQuiet_step (fun K hK => ?_); go_simp; refine ⟨_, fun _ _ => rfl, hK _ ?_⟩; clear hK K
      refine wpQuiet_step (fun K hK => ?_); go_simp; refine ⟨_, fun _ _ => rfl, hK _ ?_⟩; clear hK K
      refine wpQuiet_step (fun K hK => ?_); go_simp; refine ⟨_, fun _ _ => rfl, hK _ ?_⟩; clear hK K
      refine wpQuiet_step (fun K hK => ?_); go_simp; refine ⟨_, fun _ _ => rfl, hK _ ?_⟩; clear hK K
      refine wpQuiet_step (fun K hK => ?_); go_simp; refine hK _ ?_; clear hK K
      refine wpQuiet_step (fun K hK => ?_); go_simp; refine hK _ ?_; clear hK K
      refine wpQuiet_step (fun K hK => ?_); go_simp; refine ⟨_, fun _ _ => rfl, hK _ ?_⟩; clear hK K
      refine wpQuiet_step (fun K hK => ?_); go_simp; refine ⟨_, fun _ _ => rfl, hK _ ?_⟩; clear hK K
      refine wpQuiet_step (fun K hK => ?_); go_simp; refine ⟨_, fun _ _ => rfl, hK _ ?_⟩; clear hK K
      refine wpQuiet_step (fun K hK => ?_); go_simp; refine ⟨_, fun _ _ => rfl, hK _ ?_⟩; clear hK K
      refine wpQuiet_step (fun K hK => ?_); go_simp; refine ⟨_, fun _ _ => rfl, hK _ ?_⟩; clear hK K
      refine wpQuiet_step (fun K hK => ?_); go_simp; refine ⟨_, fun _ _ => rfl, hK _ ?_⟩; clear hK K
      refine wpQuiet_step (fun K hK => ?_); go_simp; refine ⟨_, fun _ _ => rfl, hK _ ?_⟩; clear hK K
      refine wpQuiet_step (fun K hK => ?_); go_simp; refine ⟨_, fun _ _ => rfl, hK _ ?_⟩; clear hK K
      refine wpQuiet_step (fun K hK => ?_); go_simp; refine ⟨_, fun _ _ => rfl, hK _ ?_⟩; clear hK K
      refine wpQuiet_step (fun K hK => ?_); go_simp; refine ⟨_, fun _ _ => rfl, hK _ ?_⟩; clear hK K
      refine wpQuiet_step (fun K hK => ?_); go_simp; refine ⟨_, fun _ _ => rfl, hK _ ?_⟩; clear hK K
      refine wpQuiet_step (fun K hK => ?_); go_simp; refine ⟨_, fun _ _ => rfl, hK _ ?_⟩; clear hK K
      refine wpQuiet_load_g (by first | rfl | go_simp) 25 (.tmp 3) rfl (.agg c) (fun W hW => LA.out W (M2.out W hW)) ?_
      refine wpQuiet_step (fun K hK => ?_); go_simp; refine ⟨_, fun W hW => KHA.out w2 W hW, hK _ ?_⟩; clear hK K
      refine wpQuiet_load_g (by first | rfl | go_simp) 25 (.tmp 4) rfl (.agg d) (fun W hW => LB.out W (M2.out W hW)) ?_
      refine wpQuiet_step (fun K hK => ?_); go_simp; refine ⟨_, fun W hW => KHB.out w2 W hW, hK _ ?_⟩; clear hK K
      refine wpQuiet_step (fun K hK => ?_); go_simp; refine ⟨_, fun _ _ => rfl, hK _ ?_⟩; clear hK K
      refine wpQuiet_step (fun K hK => ?_); go_simp; refine ⟨_, fun _ _ => rfl, hK _ ?_⟩; clear hK K
      refine wpQuiet_step (fun K hK => ?_); go_simp; refine ⟨_, fun _ _ => rfl, hK _ ?_⟩; clear hK K
      refine wpQuiet_step (fun K hK => ?_); go_simp; refine ⟨_, fun _ _ => rfl, hK _ ?_⟩; clear hK K
      refine wpQuiet_step (fun K hK => ?_); go_simp; refine ⟨_, fun _ _ => rfl, hK _ ?_⟩; clear hK K
      refine wpQuiet_step (fun K hK => ?_); go_simp; refine ⟨_, fun _ _ => rfl, hK _ ?_⟩; clear hK K
      refine wpQuiet_step (fun K hK => ?_); go_simp; refine ⟨_, fun _ _ => rfl, hK _ ?_⟩; clear hK K
      refine wpQuiet_load_g (by first | rfl | go_simp) 25 (.tmp 4) rfl (.agg d) (fun W hW => LB.out W (M2.out W hW)) ?_
      refine wpQuiet_load_g (by first | rfl | go_simp) 25 (.tmp 5) rfl (.agg e0) (fun W hW => LC.out W (M2.out W hW)) ?_
      refine wpQuiet_step (fun K hK => ?_); go_simp; refine ⟨_, fun W hW => KBZ.out w2 W hW, hK _ ?_⟩; clear hK K
      refine wpQuiet_step (fun K hK => ?_); go_simp; refine ⟨_, fun _ _ => rfl, hK _ ?_⟩; clear hK K
      refine wpQuiet_step (fun K hK => ?_); go_simp; refine ⟨_, fun _ _ => rfl, hK _ ?_⟩; clear hK K
      refine wpQuiet_step (fun K hK => ?_); go_simp; refine ⟨_, fun _ _ => rfl, hK _ ?_⟩; clear hK K
      refine wpQuiet_load_g (by first | rfl | go_simp) 25 (.tmp 3) rfl (.agg c) (fun W hW => LA.out W (M2.out W hW)) ?_
      refine wpQuiet_load_g (by first | rfl | go_simp) 25 (.tmp 5) rfl (.agg e0) (fun W hW => LC.out W (M2.out W hW)) ?_
      refine wpQuiet_step (fun K hK => ?_); go_simp; refine ⟨_, fun W hW => KAZ.out w2 W hW, hK _ ?_⟩; clear hK K
      refine wpQuiet_step (fun K hK => ?_); go_simp; refine ⟨_, fun _ _ => rfl, hK _ ?_⟩; clear hK K
      refine wpQuiet_step (fun K hK => ?_); go_simp; refine ⟨_, fun _ _ => rfl, hK _ ?_⟩; clear hK K
      refine wpQuiet_step (fun K hK => ?_); go_simp; refine ⟨_, fun _ _ => rfl, hK _ ?_⟩; clear hK K
      refine wpQuiet_nil ?_
      intro w3 hx4
      have HX4 := Lib.hid (HX3.out.trans hx4)
      clear hx4
      go_wp2
      go_ret
      exact ⟨rfl, HX4.out⟩
    | false =>
      clear HV htu
      refine wp_region_quiet (C := AfterH w2) (by kernel_rfl) (by kernel_rfl) (show AfterH w2 w2.drew from (Ext.refl w2).drew) ?_
      refine wpQuiet_step (fun K hK => ?_); go_simp; refine ⟨_, fun _ _ => rfl, hK _ ?_⟩; clear hK K
      refine wpQuiet_load_g (by first | rfl | go_simp) 25 (.tmp 3) rfl (.agg c) (fun W hW => LA.out W (M2.out W hW)) ?_
      refine wpQuiet_load_g (by first | rfl | go_simp) 25 (.tmp 4) rfl (.agg d) (fun W hW => LB.out W (M2.out W hW)) ?_
      refine wpQuiet_step (fun K hK => ?_); go_simp; refine ⟨_, fun W hW => KR.out w2 W hW, hK _ ?_⟩; clear hK K
      refine wpQuiet_step (fun K hK => ?_); go_simp; refine ⟨_, fun _ _ => rfl, hK _ ?_⟩; clear hK K
      refine wpQuiet_step (fun K hK => ?_); go_simp; refine ⟨_, fun _ _ => rfl, hK _ ?_⟩; clear hK K
      refine wpQuiet_load_g (by first | rfl | go_simp) 25 (.tmp 3) rfl (.agg c) (fun W hW => LA.out W (M2.out W hW)) ?_
      refine wpQuiet_load_g (by first | rfl | go_simp) 25 (.tmp 4) rfl (.agg d) (fun W hW => LB.out W (M2.out W hW)) ?_
      refine wpQuiet_step (fun K hK => ?_); go_simp; refine ⟨_, fun _ _ => rfl, hK _ ?_⟩; clear hK K
      refine wpQuiet_step (fun K hK => ?_); go_simp; refine ⟨_, fun _ _ => rfl, hK _ ?_⟩; clear hK K
      refine wpQuiet_step (fun K hK => ?_); go_simp; refine ⟨_, fun _ _ => rfl, hK _ ?_⟩; clear hK K
      refine wpQuiet_step (fun K hK => ?_); go_simp; refine ⟨_, fun _ _ => rfl, hK _ ?_⟩; clear hK K
      refine wpQuiet_step (fun K hK => ?_); go_simp; refine hK _ ?_; clear hK K
      refine wpQuiet_step (fun K hK => ?_); go_simp; refine hK _ ?_; clear hK K
      refine wpQuiet_step (fun K hK => ?_); go_simp; refine ⟨_, fun _ _ => rfl, hK _ ?_⟩; clear hK K
      refine wpQuiet_step (fun K hK => ?_); go_simp; refine ⟨_, fun _ _ => rfl, hK _ ?_⟩; clear hK K
      refine wpQuiet_step (fun K hK => ?_); go_simp; refine ⟨_, fun _ _ => rfl, hK _ ?_⟩; clear hK K
      refine wpQuiet_step (fun K hK => ?_); go_simp; refine ⟨_, fun _ _ => rfl, hK _ ?_⟩; clear hK K
      refine wpQuiet_step (fun K hK => ?_); go_simp; refine ⟨_, fun _ _ => rfl, hK _ ?_⟩; clear hK K
      refine wpQuiet_step (fun K hK => ?_); go_simp; refine ⟨_, fun _ _ => rfl, hK _ ?_⟩; clear hK K
      refine wpQuiet_step (fun K hK => ?_); go_simp; refine ⟨_, fun _ _ => rfl, hK _ ?_⟩; clear hK K
      refine wpQuiet_step (fun K hK => ?_); go_simp; refine ⟨_, fun _ _ => rfl, hK _ ?_⟩; clear hK K
      refine wpQuiet_step (fun K hK => ?_); go_simp; refine ⟨_, fun _ _ => rfl, hK _ ?_⟩; clear hK K
      refine wpQuiet_step (fun K hK => ?_); go_simp; refine ⟨_, fun _ _ => rfl, hK _ ?_⟩; clear hK K
      refine wpQuiet_step (fun K hK => ?_); go_simp; refine ⟨_, fun _ _ => rfl, hK _ ?_⟩; clear hK K
      refine wpQuiet_step (fun K hK => ?_); go_simp; refine ⟨_, fun _ _ => rfl, hK _ ?_⟩; clear hK K
      refine wpQuiet_load_g (by first | rfl | go_simp) 25 (.tmp 3) rfl (.agg c) (fun W hW => LA.out W (M2.out W hW)) ?_
      refine wpQuiet_step (fun K hK => ?_); go_simp; refine ⟨_, fun W hW => KHA.out w2 W hW, hK _ ?_⟩; clear hK K
      refine wpQuiet_load_g (by first | rfl | go_simp) 25 (.tmp 4) rfl (.agg d) (fun W hW => LB.out W (M2.out W hW)) ?_
      refine wpQuiet_step (fun K hK => ?_); go_simp; refine ⟨_, fun W hW => KHB.out w2 W hW, hK _ ?_⟩; clear hK K
      refine wpQuiet_step (fun K hK => ?_); go_simp; refine ⟨_, fun _ _ => rfl, hK _ ?_⟩; clear hK K
      refine wpQuiet_step (fun K hK => ?_); go_simp; refine ⟨_, fun _ _ => rfl, hK _ ?_⟩; clear hK K
      refine wpQuiet_step (fun K hK => ?_); go_simp; refine ⟨_, fun _ _ => rfl, hK _ ?_⟩; clear hK K
      refine wpQuiet_step (fun K hK => ?_); go_simp; refine ⟨_, fun _ _ => rfl, hK _ ?_⟩; clear hK K
      refine wpQuiet_step (fun K hK => ?_); go_simp; refine ⟨_, fun _ _ => rfl, hK _ ?_⟩; clear hK K
      refine wpQuiet_step (fun K hK => ?_); go_simp; refine ⟨_, fun _ _ => rfl, hK _ ?_⟩; clear hK K
      refine wpQuiet_step (fun K hK => ?_); go_simp; refine ⟨_, fun _ _ => rfl, hK _ ?_⟩; clear hK K
      refine wpQuiet_load_g (by first | rfl | go_simp) 25 (.tmp 4) rfl (.agg d) (fun W hW => LB.out W (M2.out W hW)) ?_
      refine wpQuiet_load_g (by first | rfl | go_simp) 25 (.tmp 5) rfl (.agg e0) (fun W hW => LC.out W (M2.out W hW)) ?_
      refine wpQuiet_step (fun K hK => ?_); go_simp; refine ⟨_, fun W hW => KBZ.out w2 W hW, hK _ ?_⟩; clear hK K
      refine wpQuiet_step (fun K hK => ?_); go_simp; refine ⟨_, fun _ _ => rfl, hK _ ?_⟩; clear hK K
      refine wpQuiet_step (fun K hK => ?_); go_simp; refine ⟨_, fun _ _ => rfl, hK _ ?_⟩; clear hK K
      refine wpQuiet_step (fun K hK => ?_); go_simp; refine ⟨_, fun _ _ => rfl, hK _ ?_⟩; clear hK K
      refine wpQuiet_step (fun K hK => ?_); go_simp; refine hK _ ?_; clear hK K
      refine wpQuiet_step (fun K hK => ?_); go_simp; refine hK _ ?_; clear hK K
      refine wpQuiet_step (fun K hK => ?_); go_simp; refine hK _ ?_; clear hK K
      refine wpQuiet_step (fun K hK => ?_); go_simp; refine ⟨_, fun _ _ => rfl, hK _ ?_⟩; clear hK K
      refine wpQuiet_step (fun K hK => ?_); go_simp; refine ⟨_, fun _ _ => rfl, hK _ ?_⟩; clear hK K
      refine wpQuiet_step (fun K hK => ?_); go_simp; refine ⟨_, fun _ _ => rfl, hK _ ?_⟩; clear hK K
      refine wpQuiet_nil ?_
      intro w3 hx4
      have HX4 := Lib.hid (HX3.out.trans hx4)
      clear hx4
      go_wp2
      go_ret
      exact ⟨rfl, HX4.out⟩
  · clear HV
    refine wp_region_quiet (C := AfterH w2) (by kernel_rfl) (by kernel_rfl) (show AfterH w2 w2.drew from (Ext.refl w2).drew) ?_
    refine wpQuiet_step (fun K hK => ?_); go_simp; refine ⟨_, fun _ _ => rfl, hK _ ?_⟩; clear hK K
    refine wpQuiet_load_g (by first | rfl | go_simp) 25 (.tmp 3) rfl (.agg c) (fun W hW => LA.out W (M2.out W hW)) ?_
    refine wpQuiet_load_g (by first | rfl | go_simp) 25 (.tmp 4) rfl (.agg d) (fun W hW => LB.out W (M2.out W hW)) ?_
    refine wpQuiet_step (fun K hK => ?_); go_simp; refine ⟨_, fun W hW => KR.out w2 W hW, hK _ ?_⟩; clear hK K
    refine wpQuiet_step (fun K hK => ?_); go_simp; refine ⟨_, fun _ _ => rfl, hK _ ?_⟩; clear hK K
    refine wpQuiet_step (fun K hK => ?_); go_simp; refine ⟨_, fun _ _ => rfl, hK _ ?_⟩; clear hK K
    refine wpQuiet_load_g (by first | rfl | go_simp) 25 (.tmp 3) rfl (.agg c) (fun W hW => LA.out W (M2.out W hW)) ?_
    refine wpQuiet_load_g (by first | rfl | go_simp) 25 (.tmp 4) rfl (.agg d) (fun W hW => LB.out W (M2.out W hW)) ?_
    refine wpQuiet_step (fun K hK => ?_); go_simp; refine ⟨_, fun _ _ => rfl, hK _ ?_⟩; clear hK K
    refine wpQuiet_step (fun K hK => ?_); go_simp; refine ⟨_, fun _ _ => rfl, hK _ ?_⟩; clear hK K
    refine wpQuiet_step (fun K hK => ?_); go_simp; refine ⟨_, fun _ _ => rfl, hK _ ?_⟩; clear hK K
    refine wpQuiet_step (fun K hK => ?_); go_simp; refine ⟨_, fun _ _ => rfl, hK _ ?_⟩; clear hK K
    refine wpQuiet_step (fun K hK => ?_); go_simp; refine ⟨_, fun _ _ => rfl, hK _ ?_⟩; clear hK K
    refine wpQuiet_step (fun K hK => ?_); go_simp; refine ⟨_, fun _ _ => rfl, hK _ ?_⟩; clear hK K
    refine wpQuiet_step (fun K hK => ?_); go_simp; refine ⟨_, fun _ _ => rfl, hK _ ?_⟩; clear hK K
    refine wpQuiet_step (fun K hK => ?_); go_simp; refine ⟨_, fun _ _ => rfl, hK _ ?_⟩; clear hK K
    refine wpQuiet_step (fun K hK => ?_); go_simp; refine ⟨_, fun _ _ => rfl, hK _ ?_⟩; clear hK K
    refine wpQuiet_step (fun K hK => ?_); go_simp; refine ⟨_, fun _ _ => rfl, hK _ ?_⟩; clear hK K
    refine wpQuiet_step (fun K hK => ?_); go_simp; refine ⟨_, fun _ _ => rfl, hK _ ?_⟩; clear hK K
    refine wpQuiet_step (fun K hK => ?_); go_simp; refine ⟨_, fun _ _ => rfl, hK _ ?_⟩; clear hK K
    refine wpQuiet_step (fun K hK => ?_); go_simp; refine hK _ ?_; clear hK K
    refine wpQuiet_step (fun K hK => ?_); go_simp; refine ⟨_, fun _ _ => rfl, hK _ ?_⟩; clear hK K
    refine wpQuiet_step (fun K hK => ?_); go_simp; refine ⟨_, fun _ _ => rfl, hK _ ?_⟩; clear hK K
    refine wpQuiet_step (fun K hK => ?_); go_simp; refine ⟨_, fun _ _ => rfl, hK _ ?_⟩; clear hK K
    refine wpQuiet_step (fun K hK => ?_); go_simp; refine ⟨_, fun _ _ => rfl, hK _ ?_⟩; clear hK K
    refine wpQuiet_step (fun K hK => ?_); go_simp; refine ⟨_, fun _ _ => rfl, hK _ ?_⟩; clear hK K
    refine wpQuiet_load_g (by first | rfl | go_simp) 25 (.tmp 3) rfl (.agg c) (fun W hW => LA.out W (M2.out W hW)) ?_
    refine wpQuiet_step (fun K hK => ?_); go_simp; refine ⟨_, fun W hW => KHA.out w2 W hW, hK _ ?_⟩; clear hK K
    refine wpQuiet_load_g (by first | rfl | go_simp) 25 (.tmp 4) rfl (.agg d) (fun W hW => LB.out W (M2.out W hW)) ?_
    refine wpQuiet_step (fun K hK => ?_); go_simp; refine ⟨_, fun W hW => KHB.out w2 W hW, hK _ ?_⟩; clear hK K
    refine wpQuiet_step (fun K hK => ?_); go_simp; refine ⟨_, fun _ _ => rfl, hK _ ?_⟩; clear hK K
    refine wpQuiet_step (fun K hK => ?_); go_simp; refine ⟨_, fun _ _ => rfl, hK _ ?_⟩; clear hK K
    refine wpQuiet_step (fun K hK => ?_); go_simp; refine ⟨_, fun _ _ => rfl, hK _ ?_⟩; clear hK K
    refine wpQuiet_step (fun K hK => ?_); go_simp; refine ⟨_, fun _ _ => rfl, hK _ ?_⟩; clear hK K
    refine wpQuiet_step (fun K hK => ?_); go_simp; refine ⟨_, fun _ _ => rfl, hK _ ?_⟩; clear hK K
    refine wpQuiet_step (fun K hK => ?_); go_simp; refine ⟨_, fun _ _ => rfl, hK _ ?_⟩; clear hK K
    refine wpQuiet_step (fun K hK => ?_); go_simp; refine ⟨_, fun _ _ => rfl, hK _ ?_⟩; clear hK K
    refine wpQuiet_step (fun K hK => ?_); go_simp; refine hK _ ?_; clear hK K
    refine wpQuiet_step (fun K hK => ?_); go_simp; refine hK _ ?_; clear hK K
    refine wpQuiet_step (fun K hK => ?_); go_simp; refine hK _ ?_; clear hK K
    refine wpQuiet_step (fun K hK => ?_); go_simp; refine hK _ ?_; clear hK K
    refine wpQuiet_step (fun K hK => ?_); go_simp; refine ⟨_, fun _ _ => rfl, hK _ ?_⟩; clear hK K
    refine wpQuiet_step (fun K hK => ?_); go_simp; refine ⟨_, fun _ _ => rfl, hK _ ?_⟩; clear hK K
    refine wpQuiet_step (fun K hK => ?_); go_simp; refine hK _ ?_; clear hK K
    refine wpQuiet_step (fun K hK => ?_); go_simp; refine hK _ ?_; clear hK K
    refine wpQuiet_step (fun K hK => ?_); go_simp; refine hK _ ?_; clear hK K
    refine wpQuiet_step (fun K hK => ?_); go_simp; refine ⟨_, fun _ _ => rfl, hK _ ?_⟩; clear hK K
    refine wpQuiet_step (fun K hK => ?_); go_simp; refine ⟨_, fun _ _ => rfl, hK _ ?_⟩; clear hK K
    refine wpQuiet_step (fun K hK => ?_); go_simp; refine ⟨_, fun _ _ => rfl, hK _ ?_⟩; clear hK K
    refine wpQuiet_nil ?_
    intro w3 hx4
    have HX4 := Lib.hid (HX3.out.trans hx4)
    clear hx4
    go_wp2
    go_ret
    exact ⟨rfl, HX4.out⟩
  · clear HV
    refine wp_region_quiet (C := AfterH w2) (by kernel_rfl) (by kernel_rfl) (show AfterH w2 w2.drew from (Ext.refl w2).drew) ?_
    refine wpQuiet_step (fun K hK => ?_); go_simp; refine ⟨_, fun _ _ => rfl, hK _ ?_⟩; clear hK K
    refine wpQuiet_load_g (by first | rfl | go_simp) 25 (.tmp 3) rfl (.agg c) (fun W hW => LA.out W (M2.out W hW)) ?_
    refine wpQuiet_load_g (by first | rfl | go_simp) 25 (.tmp 4) rfl (.agg d) (fun W hW => LB.out W (M2.out W hW)) ?_
    refine wpQuiet_step (fun K hK => ?_); go_simp; refine ⟨_, fun W hW => KR.out w2 W hW, hK _ ?_⟩; clear hK K
    refine wpQuiet_step (fun K hK => ?_); go_simp; refine ⟨_, fun _ _ => rfl, hK _ ?_⟩; clear hK K
    refine wpQuiet_step (fun K hK => ?_); go_simp; refine ⟨_, fun _ _ => rfl, hK _ ?_⟩; clear hK K
    refine wpQuiet_load_g (by first | rfl | go_simp) 25 (.tmp 3) rfl (.agg c) (fun W hW => LA.out W (M2.out W hW)) ?_
    refine wpQuiet_load_g (by first | rfl | go_simp) 25 (.tmp 4) rfl (.agg d) (fun W hW => LB.out W (M2.out W hW)) ?_
    refine wpQuiet_step (fun K hK => ?_); go_simp; refine ⟨_, fun _ _ => rfl, hK _ ?_⟩; clear hK K
    refine wpQuiet_step (fun K hK => ?_); go_simp; refine ⟨_, fun _ _ => rfl, hK _ ?_⟩; clear hK K
    refine wpQuiet_step (fun K hK => ?_); go_simp; refine ⟨_, fun _ _ => rfl, hK _ ?_⟩; clear hK K
    refine wpQuiet_step (fun K hK => ?_); go_simp; refine ⟨_, fun _ _ => rfl, hK _ ?_⟩; clear hK K
    refine wpQuiet_step (fun K hK => ?_); go_simp; refine ⟨_, fun _ _ => rfl, hK _ ?_⟩; clear hK K
    refine wpQuiet_step (fun K hK => ?_); go_simp; refine ⟨_, fun _ _ => rfl, hK _ ?_⟩; clear hK K
    refine wpQuiet_step (fun K hK => ?_); go_simp; refine ⟨_, fun _ _ => rfl, hK _ ?_⟩; clear hK K
    refine wpQuiet_step (fun K hK => ?_); go_simp; refine ⟨_, fun _ _ => rfl, hK _ ?_⟩; clear hK K
    refine wpQuiet_step (fun K hK => ?_); go_simp; refine ⟨_, fun _ _ => rfl, hK _ ?_⟩; clear hK K
    refine wpQuiet_step (fun K hK => ?_); go_simp; refine ⟨_, fun _ _ => rfl, hK _ ?_⟩; clear hK K
    refine wpQuiet_step (fun K hK => ?_); go_simp; refine ⟨_, fun _ _ => rfl, hK _ ?_⟩; clear hK K
    refine wpQuiet_step (fun K hK => ?_); go_simp; refine ⟨_, fun _ _ => rfl, hK _ ?_⟩; clear hK K
    refine wpQuiet_step (fun K hK => ?_); go_simp; refine hK _ ?_; clear hK K
    refine wpQuiet_step (fun K hK => ?_); go_simp; refine ⟨_, fun _ _ => rfl, hK _ ?_⟩; clear hK K
    refine wpQuiet_step (fun K hK => ?_); go_simp; refine ⟨_, fun _ _ => rfl, hK _ ?_⟩; clear hK K
    refine wpQuiet_step (fun K hK => ?_); go_simp; refine ⟨_, fun _ _ => rfl, hK _ ?_⟩; clear hK K
    refine wpQuiet_step (fun K hK => ?_); go_simp; refine ⟨_, fun _ _ => rfl, hK _ ?_⟩; clear hK K
    refine wpQuiet_step (fun K hK => ?_); go_simp; refine ⟨_, fun _ _ => rfl, hK _ ?_⟩; clear hK K
    refine wpQuiet_load_g (by first | rfl | go_simp) 25 (.tmp 3) rfl (.agg c) (fun W hW => LA.out W (M2.out W hW)) ?_
    refine wpQuiet_step (fun K hK => ?_); go_simp; refine ⟨_, fun W hW => KHA.out w2 W hW, hK _ ?_⟩; clear hK K
    refine wpQuiet_load_g (by first | rfl | go_simp) 25 (.tmp 4) rfl (.agg d) (fun W hW => LB.out W (M2.out W hW)) ?_
    refine wpQuiet_step (fun K hK => ?_); go_simp; refine ⟨_, fun W hW => KHB.out w2 W hW, hK _ ?_⟩; clear hK K
    refine wpQuiet_step (fun K hK => ?_); go_simp; refine ⟨_, fun _ _ => rfl, hK _ ?_⟩; clear hK K
    refine wpQuiet_step (fun K hK => ?_); go_simp; refine ⟨_, fun _ _ => rfl, hK _ ?_⟩; clear hK K
    refine wpQuiet_step (fun K hK => ?_); go_simp; refine ⟨_, fun _ _ => rfl, hK _ ?_⟩; clear hK K
    refine wpQuiet_step (fun K hK => ?_); go_simp; refine ⟨_, fun _ _ => rfl, hK _ ?_⟩; clear hK K
    refine wpQuiet_step (fun K hK => ?_); go_simp; refine ⟨_, fun _ _ => rfl, hK _ ?_⟩; clear hK K
    refine wpQuiet_step (fun K hK => ?_); go_simp; refine ⟨_, fun _ _ => rfl, hK _ ?_⟩; clear hK K
    refine wpQuiet_step (fun K hK => ?_); go_simp; refine ⟨_, fun _ _ => rfl, hK _ ?_⟩; clear hK K
    refine wpQuiet_step (fun K hK => ?_); go_simp; refine hK _ ?_; clear hK K
    refine wpQuiet_step (fun K hK => ?_); go_simp; refine hK _ ?_; clear hK K
    refine wpQuiet_step (fun K hK => ?_); go_simp; refine hK _ ?_; clear hK K
    refine wpQuiet_step (fun K hK => ?_); go_simp; refine hK _ ?_; clear hK K
    refine wpQuiet_step (fun K hK => ?_); go_simp; refine ⟨_, fun _ _ => rfl, hK _ ?_⟩; clear hK K
    refine wpQuiet_step (fun K hK => ?_); go_simp; refine ⟨_, fun _ _ => rfl, hK _ ?_⟩; clear hK K
    refine wpQuiet_step (fun K hK => ?_); go_simp; refine hK _ ?_; clear hK K
    refine wpQuiet_step (fun K hK => ?_); go_simp; refine hK _ ?_; clear hK K
    refine wpQuiet_step (fun K hK => ?_); go_simp; refine hK _ ?_; clear hK K
    refine wpQuiet_step (fun K hK => ?_); go_simp; refine ⟨_, fun _ _ => rfl, hK _ ?_⟩; clear hK K
    refine wpQuiet_step (fun K hK => ?_); go_simp; refine ⟨_, fun _ _ => rfl, hK _ ?_⟩; clear hK K
    refine wpQuiet_step (fun K hK => ?_); go_simp; refine ⟨_, fun _ _ => rfl, hK _ ?_⟩; clear hK K
    refine wpQuiet_nil ?_
    intro w3 hx4
    have HX4 := Lib.hid (HX3.out.trans hx4)
    clear hx4
    go_wp2
    go_ret
    exact ⟨rfl, HX4.out⟩
end Go.Proofs.YtfhmafncpodlbaaDoor

/-
  Literals of rows, and rows that lie in newer blocks than another one. Conditions: none.
-/
namespace Go.Proofs.YtfhmafncpodlbaaDoor
open Go.RowKit
open Pol (co Sm)

theorem rrd_lit (w : World) (vs : List Value) (rows : List (List Nat)) (h : RowsV w vs rows) : RRd (w.alloc (.cells vs.toArray 22)) (some ⟨w.heap.size, 0, none⟩) rows := fun i hi => by
  obtain ⟨B, c, hv, hl, hr⟩ := h.2 i hi
  refine ⟨w.heap.size, 0, B, c, rfl, ?_, hl, hr.ext ((Ext.refl _).alloc _)⟩
  rw [cell_of_row _ _ _ _ _ _ (heap_alloc_new w _), Nat.zero_add]
  simpa using hv
theorem rowsV_one {w : World} {v : Value} {l : List Nat} (h : Sl w v l) : RowsV w [v] [l] := ⟨rfl, fun i hi => by
  match i, hi with
  | 0, _ =>
    obtain ⟨B, c, rfl, hc, hr⟩ := h
    exact ⟨B, c, rfl, hc, hr⟩⟩
theorem take_ro (rows : List (List Nat)) (k : Nat) (h : k < rows.length) : rows.take (k + 1) = rows.take k ++ [ro rows k] := by
  rw [List.take_succ_eq_append_getElem h]
  unfold ro
  rw [List.getElem?_eq_getElem h]
  rfl
/-- A literal of one row, whose bytes lie in a block that is new: it lies in no elder block. -/
theorem far_one {w : World} {v : Value} {l : List Nat} {base : Nat} (hm : Mine w base v l) (row : Option Nat) (hrow : ∀ k, row = some k → k < base) (g : Nat) (hg : g = w.heap.size) :
    ∀ i, i < [l].length → ∀ b o n c, (∃ b' o', (some ⟨g, 0, none⟩ : Option Addr) = some ⟨b', o', none⟩ ∧ (w.alloc (.cells #[v] 22)).cell? ⟨b', o' + i, none⟩ = some (.slice (some ⟨b, o, none⟩) n c)) → 0 < n → some b ≠ row := by
  rintro i hi b o n c ⟨b', o', e, hc⟩ hn e'
  subst hg
  injection e with e
  injection e with e1 e2
  subst e1; subst e2
  have hi0 : i = 0 := by simpa using hi
  subst hi0
  rw [cell_of_row _ _ _ _ _ _ (heap_alloc_new w _)] at hc
  have hv : v = .slice (some ⟨b, o, none⟩) n c := by simpa using hc
  have hb := World.ownsRow.lt hm b (by rw [hv]; rfl)
  have := hrow b e'.symm
  omega
end Go.Proofs.YtfhmafncpodlbaaDoor

/-
  The statements' own comparison of bytes tells lists that are unlike from those that are alike. Conditions: no more than 2^20 bytes.
-/
namespace Go.Proofs.YtfhmafncpodlbaaDoor
open Go.RowKit
open Pol (co Sm)

set_option maxHeartbeats 400000 in
set_option maxRecDepth 100000 in
theorem same_no (l m : List Nat) (A B : Option Addr) (ca cb : Nat) (w : World) (ha : Rd w A l) (hb : Rd w B m) (hl : l.length ≤ 1048576) (h : l ≠ m) :
    Calls Tryd.prog 15 #[.slice A l.length ca, .slice B m.length cb] w (Hands (.bool false) w) := by
  by_cases hlm : l.length = m.length
  · rw [← hlm]
    have HNE := Lib.hid (fun (k : ∀ j, j < l.length → co l j = co m j) => h (Lin.list_ext hlm k))
    have HLM := Lib.hid hlm
    generalize hn : l.length = n at *
    have HA := Lib.hid ha
    have HB := Lib.hid hb
    have HN := Lib.hid hn
    clear ha hb hn h hlm
    go_enter Tryd.func15, Tryd.ntmps15
    go_wp2
    go_loopg [13] n (fun g s wx => ∃ k q : Nat, k + g = n ∧ s = .int .i64 (k : Int) ∧ wx = w.drewN q ∧ ∀ j, j < k → co l j = co m j)
    case atStart => exact ⟨0, 0, by omega, rfl, rfl, fun j hj => by omega⟩
    case round =>
      obtain ⟨k, q, hkg, rfl, rfl, hsame⟩ := hrel
      have HSA := Lib.hid hsame
      clear hsame
      cases gk with
      | zero =>
        obtain rfl : k = n := by omega
        exact absurd HSA.out HNE.out
      | succ g =>
        have hk : k < n := by omega
        obtain ⟨b, o, rfl, hc⟩ := HA.out.2 k (by rw [HN.out]; exact hk)
        obtain ⟨b', o', rfl, hc'⟩ := HB.out.2 k (by rw [← HLM.out]; exact hk)
        have hkI : (k : Int) < (n : Int) := by omega
        obtain ⟨x, hx⟩ : ∃ x, co l k = x := ⟨_, rfl⟩
        obtain ⟨y, hy⟩ : ∃ y, co m k = y := ⟨_, rfl⟩
        rw [hx] at hc
        rw [hy] at hc'
        by_cases e : x = y
        · have t : ((x : Int) != (y : Int)) = false := by subst e; simp
          have HE := Lib.hid (show co l k = co m k by rw [hx, hy]; exact e)
          clear e hx hy
          go_wp2
          go_quiet (fail)
          go_wp2
          go_roundg g
          case measure => omega
          case rel => exact ⟨k + 1, _, by omega, by go_num, rfl, fun j hj => by
            by_cases e : j = k
            · subst e; exact HE.out
            · exact HSA.out j (by omega)⟩
        · have t : ((x : Int) != (y : Int)) = true := by simp; omega
          clear e hx hy
          go_wp2
          go_quiet (fail)
          go_wp2
          go_ret
          exact ⟨rfl, q + nq, by rw [World.drewN_drewN]⟩
  · have t : ((l.length : Int) != (m.length : Int)) = true := by simp; omega
    generalize l.length = n at *
    generalize m.length = n' at *
    clear ha hb h
    go_enter Tryd.func15, Tryd.ntmps15
    go_wp2
    go_ret
    exact ⟨rfl, 0, rfl⟩
end Go.Proofs.YtfhmafncpodlbaaDoor

/-
  The law ShaOwn, walked, under what layer 10's functions are to do. Conditions: none.
-/
namespace Go.Proofs.YtfhmafncpodlbaaDoor
open Go.RowKit
open Pol (co Sm)

theorem jn_one_len (b : List Nat) (h : b.length ≤ 1024) : (jn [b]).length ≤ 65536 := by
  rw [jn_cons]
  show (vt b ++ []).length ≤ _
  rw [List.append_nil]
  unfold vt
  rw [List.length_append]
  have := vn_ten (n := b.length) (by omega)
  omega
section
variable {P : Program} {C : World → Prop} {Q : Exit → Act → World → Prop}
theorem stab_load {F : Nat → Bool} {l : List Oper} {i : Nat} {o : Oper} {π : List (Nat × Bool)} {a : Act} {w : World} (ho : l[i]? = some o) (ty : TypeId) (x : Operand) (hop : o.op = .load ty x) (v : Value)
    (hw : Region.wanted o (yielded l.toArray a.tmps) = true) (hrun : ∀ W, C W → (Instr.loadAt ty (a.eval x)).run P W = .ok v W) (h : wpStab P l C F Q π (a.put o.dst v) w) : wpStab P l C F Q ((i, true) :: π) a w :=
  stab_yes ho (fun _ hK => ⟨hw, v, fun W hW => by simp only [execOp, hop, Sem.run_bind, hrun W hW, Result.andThen, Sem.run_pure], hK _ h⟩)
end
/-- A digest's cells, laid into a new block. -/
theorem dg_put {c : Array Value} {l : List Nat} (h : Dgc c l) : (Tryd.prog.info? 25).map (·.size) = some c.size ∧ (bt 32 fun _ => 0).size = c.size ∧ c.all (·.oneCell') = true := by
  refine ⟨by rw [h.1]; exact zero_digest.2, by rw [bt_size, h.1], ?_⟩
  rw [h.is]
  exact bt_one 32 _
theorem tab_behind (b m : List Nat) (n N : Nat) (hn : b.length = n) (hN : (b ++ m).length = N) : tab (N - n) (fun j => co (b ++ m) (n + j)) = m := by
  rw [List.length_append] at hN
  refine Lin.list_ext (by rw [tab_len]; omega) (fun i hi => ?_)
  rw [tab_len] at hi
  rw [co_tab, if_pos hi]
  unfold co
  rw [List.getElem?_append_right (by omega), hn, Nat.add_sub_cancel_left]
set_option maxHeartbeats 1600000 in
set_option maxRecDepth 100000 in
theorem own10_walk (C : ShaSaid) (b m : List Nat) (A M : Option Addr) (cb cm : Nat) (w : World) (hgl : GL w) (hr : Rd w A b) (hc : b.length ≤ cb) (hm : Rd w M m) :
    Calls Tryd.prog 7 #[.slice A b.length cb, .slice M m.length cm] w (Holds w) := by
  have HAW := Lib.hid (fun W (h : Ext w W) => awake10 C W (hgl.ext h))
  by_cases hbig : b.length ≤ 300 ∧ m.length ≤ 300
  · obtain ⟨hb3, hm3⟩ := hbig
    have HO := Lib.hid (fun X cx W (hg : Ext w W) (h : Rd W X b) (hx : b.length ≤ cx) => C.of b X cx W (hgl.ext hg) h hx (by omega))
    have HP := Lib.hid (fun X W (hg : Ext w W) (h : RRd W X [b]) => C.parts [b] X 1 W (hgl.ext hg) h (by simp) (by simp) (fun i hi => by
      have h0 : i = 0 := by simpa using hi
      subst h0
      show b.length ≤ 1024
      omega) (jn_one_len b (by omega)))
    have HSA := Lib.hid (fun X Y cx cy W (hx : Rd W X b) (hy : Rd W Y b) => same_tells b X Y cx cy W hx hy (by omega))
    have HSB := Lib.hid (fun X Y cx cy W (hx : Rd W X m) (hy : Rd W Y m) => same_tells m X Y cx cy W hx hy (by omega))
    have HRB := Lib.hid hr
    have HRM := Lib.hid hm
    have HS1 := Lib.hid hr.1
    have HS2 := Lib.hid hm.1
    have hx0 := (Ext.refl w).alloc (.cells #[] 5)
    have d1 : decide (300 < (b.length : Int)) = false := decide_eq_false (by omega)
    have d2 : decide (300 < (m.length : Int)) = false := decide_eq_false (by omega)
    obtain ⟨n, hn⟩ : ∃ n, b.length = n := ⟨_, rfl⟩
    obtain ⟨k, hk⟩ : ∃ n, m.length = n := ⟨_, rfl⟩
    obtain ⟨N, hN⟩ : ∃ N, (b ++ m).length = N := ⟨_, rfl⟩
    have hNn : n ≤ N := by rw [← hN, List.length_append]; omega
    have hN6 : N ≤ 600 := by rw [← hN, List.length_append]; omega
    have HNL := Lib.hid hN
    have HSM8 := Lib.hid (sm_app hr.1 hm.1)
    have HN := Lib.hid hn
    have HK := Lib.hid hk
    rw [hn] at d1 hb3 hc HO HSA ⊢
    rw [hk] at d2 hm3 HSB ⊢
    clear C hgl hr hm hn hk hx0 hN
    go_enter Tryd.func7, Tryd.ntmps7
    go_wp2_with fail
    refine (HAW.out _ (Ext.refl w)).mono ?_
    rintro e w1 ⟨rfl, hx1⟩
    have HX1 := Lib.hid hx1
    clear hx1
    go_wp2_with (first
      | (at_builtin; refine wpList_append_rd rfl (.tmp 21) (.tmp 22) rfl w1.heap.size (.slice (some ⟨w1.heap.size, 0, none⟩) 0 0) [] b rfl (mine_empty w1) A n cb rfl HN.out (HRB.out.ext (HX1.out.alloc _)) (by rw [HN.out]; simp; omega) (by simp) ?_; intro v7 w7 hown7 hg7 hat7; rw [List.nil_append] at hown7; have HX7 := Lib.hid (((Ext.refl w1).alloc (.cells #[] 5)).more hg7 (fun q hq => ((mine_empty w1).block q hq).1)); have HM7 := Lib.hid hown7; clear hown7 hg7 hat7)
      | (at_builtin; refine wpList_append_rd rfl (.tmp 23) (.tmp 24) rfl w1.heap.size v7 b m rfl HM7.out M k cm rfl HK.out (HRM.out.ext (HX1.out.trans HX7.out)) (by rw [HN.out, HK.out]; omega) HX7.out.size ?_; intro v8 w8 hown8 hg8 hat8; have HX8 := Lib.hid (HX7.out.more hg8 (fun q hq => (HM7.out.block q hq).1)); obtain ⟨B8, c8, e8, hc8, hr8⟩ := hown8.slice HSM8.out; rw [HNL.out] at e8 hc8; have HR8 := Lib.hid hr8; have hc8n : n ≤ c8 := Nat.le_trans hNn hc8; have s1 := run_to_u8 B8 N c8 n hc8n; obtain ⟨X8, s2, hX8, _⟩ := run_rest_u8 B8 N c8 n hNn hc8; have HX9 := Lib.hid hX8; subst e8; clear hown8 hg8 hat8 hr8 hX8))
    have HE8 := Lib.hid (HX1.out.trans HX8.out)
    have RB := Lib.hid (fun W (h : Ext w8 W) => show Rd W B8 b from by
      have h1 := (HR8.out.ext h).take n
      rw [show (b ++ m).take n = b from by rw [← HN.out, List.take_left]] at h1
      exact h1)
    have RM := Lib.hid (fun W (h : Ext w8 W) => show Rd W X8 m from by
      have h1 := HX9.out W (b ++ m) (HR8.out.ext h) HNL.out
      rw [tab_behind b m n N HN.out HNL.out] at h1
      exact h1)
    have hkN : N - n = k := by have := HNL.out; rw [List.length_append, HN.out, HK.out] at this; omega
    rw [hkN] at s2
    clear hkN
    go_wp2_with fail
    refine (HO.out B8 c8 _ HE8.out (RB.out _ (Ext.refl _)) hc8n).mono ?_
    rintro e w9 ⟨ca, rfl, hca, hx9⟩
    obtain ⟨p1, p2, p3⟩ := dg_put hca
    have hz := zero_digest.1
    have g1 := heap_alloc_new w9 (.cells (bt 32 fun _ => 0) 25)
    obtain ⟨W9, hW9⟩ : ∃ W, (w9.alloc (.cells (bt 32 fun _ => 0) 25)).setRow w9.heap.size ca = W := ⟨_, rfl⟩
    have g2 := setRow_heap _ w9.heap.size (bt 32 fun _ => 0) ca _ _ g1
    have xW := (((Ext.refl w9).alloc (.cells (bt 32 fun _ => 0) 25)).setRow (g := w9.heap.size) (Nat.le_refl _) ca)
    rw [hW9] at g2 xW
    have P1 := Lib.hid p1
    have P2 := Lib.hid p2
    have P3 := Lib.hid p3
    have G1 := Lib.hid g1
    have G2 := Lib.hid g2
    have HW9 := Lib.hid hW9
    have HCA := Lib.hid hca
    have HXA := Lib.hid (hx9.trans xW)
    clear hca hx9 p1 p2 p3 g1 g2 hW9 xW
    go_wp2_with (with_reducible refine wpList_store_all rfl 25 (.tmp 6) (.tmp 30) rfl w9.heap.size (bt 32 fun _ => 0) ca rfl rfl G1.out P1.out P2.out P3.out ?_; rw [HW9.out])
    have HXB := Lib.hid (HXA.out.alloc (.cells #[.slice B8 n c8] 22))
    have HRR := Lib.hid (show RRd (W9.alloc (.cells #[.slice B8 n c8] 22)) (some ⟨W9.heap.size, 0, none⟩) [b] from rrd_lit W9 [.slice B8 n c8] [b] (rowsV_one ⟨B8, c8, by rw [HN.out], by rw [HN.out]; exact hc8n, RB.out _ HXA.out⟩))
    refine (HP.out _ _ (HE8.out.trans HXB.out) HRR.out).mono ?_
    rintro e u1 ⟨cy, rfl, hcy, hy1⟩
    obtain ⟨p1, p2, p3⟩ := dg_put hcy
    have hz := zero_digest.1
    have g1 := heap_alloc_new u1 (.cells (bt 32 fun _ => 0) 25)
    obtain ⟨U1, hU1⟩ : ∃ W, (u1.alloc (.cells (bt 32 fun _ => 0) 25)).setRow u1.heap.size cy = W := ⟨_, rfl⟩
    have g2 := setRow_heap _ u1.heap.size (bt 32 fun _ => 0) cy _ _ g1
    have xW := (((Ext.refl u1).alloc (.cells (bt 32 fun _ => 0) 25)).setRow (g := u1.heap.size) (Nat.le_refl _) cy)
    rw [hU1] at g2 xW
    have Q1 := Lib.hid p1
    have Q2 := Lib.hid p2
    have Q3 := Lib.hid p3
    have K1 := Lib.hid g1
    have K2 := Lib.hid g2
    have HU1 := Lib.hid hU1
    have HCY := Lib.hid hcy
    have HXY := Lib.hid (HXB.out.trans (hy1.trans xW))
    have HXY9 := Lib.hid (((Ext.refl W9).alloc (.cells #[.slice B8 n c8] 22)).trans (hy1.trans xW))
    clear hcy hy1 p1 p2 p3 g1 g2 hU1 xW
    go_wp2_with (with_reducible refine wpList_store_all rfl 25 (.tmp 7) (.tmp 36) rfl u1.heap.size (bt 32 fun _ => 0) cy rfl rfl K1.out Q1.out Q2.out Q3.out ?_; rw [HU1.out])
    have RB1 := Lib.hid (show ∀ W, AfterH U1 W → Rd W B8 b from fun W hW => RB.out W ((HXA.out.trans HXY9.out).trans hW))
    have RM1 := Lib.hid (show ∀ W, AfterH U1 W → Rd W X8 m from fun W hW => RM.out W ((HXA.out.trans HXY9.out).trans hW))
    have HXU := Lib.hid (HE8.out.trans (HXA.out.trans HXY9.out))
    have RA1 := Lib.hid (show ∀ W, AfterH U1 W → Rd W A b from fun W hW => HRB.out.ext (HXU.out.trans hW))
    have RM0 := Lib.hid (show ∀ W, AfterH U1 W → Rd W M m from fun W hW => HRM.out.ext (HXU.out.trans hW))
    have L1 := Lib.hid (show ∀ W, AfterH U1 W → (Instr.loadAt 25 (.pointer (some ⟨w9.heap.size, 0, none⟩))).run Tryd.prog W = .ok (.agg ca) W from fun W hW => run_load_all W w9.heap.size 25 _ 32 5 Tryd.underlying25 (((HXY9.out.trans hW)).below.block w9.heap.size (by have := (Array.getElem?_eq_some_iff.1 G2.out).1; exact this) |>.trans G2.out) P1.out)
    have L2 := Lib.hid (show ∀ W, AfterH U1 W → (Instr.loadAt 25 (.pointer (some ⟨u1.heap.size, 0, none⟩))).run Tryd.prog W = .ok (.agg cy) W from fun W hW => run_load_all W u1.heap.size 25 _ 32 5 Tryd.underlying25 ((Ext.below hW).block u1.heap.size (by have := (Array.getElem?_eq_some_iff.1 K2.out).1; exact this) |>.trans K2.out) Q1.out)
    go_wp2
    refine wp_region_stab (AfterH U1) [0, 1, 2, 3, 4, 5, 6, 7, 8, 9, 10, 11, 12, 13, 14, 15, 16, 17, 18, 19, 20, 21, 22, 23, 24, 25, 26, 27] [(0, true), (1, true), (2, true), (3, true), (4, true), (5, false), (6, true), (7, true), (8, true), (9, true), (10, true), (11, true), (12, false), (13, true), (14, true), (15, true), (16, true), (17, false), (18, true), (19, true), (20, true), (21, true), (22, true), (23, false), (24, false), (25, true), (26, true), (27, true)] (by kernel_rfl) (fun c a a' w e h => ⟨e ▸ h.1, h.2⟩) (by kernel_rfl) (show AfterH U1 U1.drew from (Ext.refl U1).drew) ?_
    refine stab_yes rfl (fun K hK => ?_); go_simp; refine ⟨_, fun _ _ => rfl, hK _ ?_⟩; clear hK K
    refine stab_yes rfl (fun K hK => ?_); go_simp; refine ⟨_, fun _ _ => rfl, hK _ ?_⟩; clear hK K
    refine stab_yes rfl (fun K hK => ?_); go_simp; refine ⟨_, fun _ _ => rfl, hK _ ?_⟩; clear hK K
    refine stab_yes rfl (fun K hK => ?_); go_simp; refine ⟨_, fun _ _ => rfl, hK _ ?_⟩; clear hK K
    refine stab_yes rfl (fun K hK => ?_); go_simp; refine ⟨_, fun _ _ => rfl, hK _ ?_⟩; clear hK K
    refine stab_one rfl (fun K hK => ?_)
    go_wp2_with fail
    refine (HSA.out B8 A c8 cb _ (RB1.out _ (Ext.refl U1).drew) (RA1.out _ (Ext.refl U1).drew)).mono ?_
    rintro e v1 ⟨rfl, hv1⟩
    have HV1 := Lib.hid (show AfterH U1 v1 from ((Ext.refl U1).drew).trans hv1)
    clear hv1
    go_wp2_with fail
    refine ⟨fun _ => HV1.out, ?_⟩
    refine stab_yes rfl (fun K hK => ?_); go_simp; refine ⟨_, fun _ _ => rfl, hK _ ?_⟩; clear hK K
    refine stab_yes rfl (fun K hK => ?_); go_simp; refine ⟨_, fun _ _ => rfl, hK _ ?_⟩; clear hK K
    refine stab_yes rfl (fun K hK => ?_); go_simp; refine ⟨_, fun _ _ => rfl, hK _ ?_⟩; clear hK K
    refine stab_yes rfl (fun K hK => ?_); go_simp; refine ⟨_, fun _ _ => rfl, hK _ ?_⟩; clear hK K
    refine stab_yes rfl (fun K hK => ?_); go_simp; refine ⟨_, fun _ _ => rfl, hK _ ?_⟩; clear hK K
    refine stab_yes rfl (fun K hK => ?_); go_simp; refine ⟨_, fun _ _ => rfl, hK _ ?_⟩; clear hK K
    refine stab_one rfl (fun K hK => ?_)
    go_wp2_with fail
    refine (HSB.out X8 M _ cm _ (RM1.out _ HV1.out) (RM0.out _ HV1.out)).mono ?_
    rintro e v2 ⟨rfl, hv2⟩
    have HV2 := Lib.hid (show AfterH U1 v2 from Ext.trans HV1.out hv2)
    clear hv2
    go_wp2_with fail
    refine ⟨fun _ => HV2.out, ?_⟩
    refine stab_yes rfl (fun K hK => ?_); go_simp; refine ⟨_, fun _ _ => rfl, hK _ ?_⟩; clear hK K
    refine stab_yes rfl (fun K hK => ?_); go_simp; refine ⟨_, fun _ _ => rfl, hK _ ?_⟩; clear hK K
    refine stab_load rfl 25 (.tmp 6) rfl (.agg ca) (by first | rfl | go_simp) (fun W hW => L1.out W hW) ?_
    refine stab_yes rfl (fun K hK => ?_); go_simp; refine ⟨_, fun _ _ => rfl, hK _ ?_⟩; clear hK K
    refine stab_one rfl (fun K hK => ?_)
    go_wp2_with fail
    refine (HO.out A cb _ (HXU.out.trans HV2.out) (RA1.out _ HV2.out) hc).mono ?_
    rintro e v3 ⟨c3, rfl, hc3, hv3⟩
    have HV3 := Lib.hid (show AfterH U1 v3 from Ext.trans HV2.out hv3)
    have q1 : ∀ W, (binOp .eql 25 (.agg ca) (.agg c3)).run Tryd.prog W = .ok (.bool true) W := fun W => by
      rw [run_eq_dgc HCA.out hc3 (sha_len _) (sha_len _) (sha_sm _) (sha_sm _) W, decide_eq_true rfl]
    clear hv3 hc3
    go_wp2_with fail
    refine ⟨fun _ => HV3.out, ?_⟩
    refine stab_yes rfl (fun K hK => ?_); go_simp; refine ⟨_, fun _ _ => rfl, hK _ ?_⟩; clear hK K
    refine stab_yes rfl (fun K hK => ?_); go_simp; refine ⟨_, fun _ _ => rfl, hK _ ?_⟩; clear hK K
    refine stab_yes rfl (fun K hK => ?_); go_simp; refine ⟨_, fun _ _ => rfl, hK _ ?_⟩; clear hK K
    refine stab_load rfl 25 (.tmp 7) rfl (.agg cy) (by first | rfl | go_simp) (fun W hW => L2.out W hW) ?_
    refine stab_yes rfl (fun K hK => ?_); go_simp; refine ⟨_, fun _ _ => rfl, hK _ ?_⟩; clear hK K
    refine stab_one rfl (fun K hK => ?_)
    go_wp2_with fail
    have HV4 := Lib.hid (show AfterH U1 (v3.alloc (.cells #[.slice A n cb] 22)) from Ext.alloc HV3.out _)
    refine ⟨fun _ => HV4.out, ?_⟩
    have HRR2 := Lib.hid (show RRd (v3.alloc (.cells #[.slice A n cb] 22)) (some ⟨v3.heap.size, 0, none⟩) [b] from rrd_lit v3 [.slice A n cb] [b] (rowsV_one ⟨A, cb, by rw [HN.out], by rw [HN.out]; exact hc, RA1.out _ HV3.out⟩))
    refine stab_one rfl (fun K hK => ?_)
    go_wp2_with fail
    refine (HP.out _ _ (HXU.out.trans HV4.out) HRR2.out).mono ?_
    rintro e v5 ⟨c5, rfl, hc5, hv5⟩
    have HV5 := Lib.hid (show AfterH U1 v5 from Ext.trans HV4.out hv5)
    have q2 : ∀ W, (binOp .eql 25 (.agg cy) (.agg c5)).run Tryd.prog W = .ok (.bool true) W := fun W => by
      rw [run_eq_dgc HCY.out hc5 (sha_len _) (sha_len _) (sha_sm _) (sha_sm _) W, decide_eq_true rfl]
    clear hv5 hc5
    go_wp2_with fail
    refine ⟨fun _ => HV5.out, ?_⟩
    refine stab_yes rfl (fun K hK => ?_); go_simp; refine ⟨_, fun _ _ => rfl, hK _ ?_⟩; clear hK K
    refine stab_yes rfl (fun K hK => ?_); go_simp; refine ⟨_, fun _ _ => rfl, hK _ ?_⟩; clear hK K
    refine stab_yes rfl (fun K hK => ?_); go_simp; refine ⟨_, fun _ _ => rfl, hK _ ?_⟩; clear hK K
    unfold wpStab
    go_wp2
    go_ret
    exact ⟨rfl, HXU.out.trans HV5.out⟩
  · have hor : decide (300 < (b.length : Int)) = true ∨ (decide (300 < (b.length : Int)) = false ∧ decide (300 < (m.length : Int)) = true) := by
      by_cases h : 300 < (b.length : Int)
      · exact .inl (decide_eq_true h)
      · exact .inr ⟨decide_eq_false h, decide_eq_true (by omega)⟩
    generalize b.length = n at *
    generalize m.length = k at *
    clear C hgl hr hm hc hbig
    rcases hor with d1 | ⟨d1, d2⟩
    all_goals
      go_enter Tryd.func7, Tryd.ntmps7
      go_wp2_with fail
      refine (HAW.out _ (Ext.refl w)).mono ?_
      rintro e w1 ⟨rfl, hx1⟩
      have HX1 := Lib.hid hx1
      clear hx1
      go_wp2_with fail
      refine (HAW.out _ HX1.out).mono ?_
      rintro e w2 ⟨rfl, hx2⟩
      have HX2 := Lib.hid (HX1.out.trans hx2)
      clear hx2
      go_wp2
      go_ret
      exact ⟨rfl, HX2.out⟩
end Go.Proofs.YtfhmafncpodlbaaDoor

/-
  An argument that is a slice of bytes, or of points, reads as a list. Conditions: none.
-/
namespace Go.Proofs.YtfhmafncpodlbaaDoor
open Go.RowKit
open Go.ChangeShapes Go.WideShapes Go.ChangeAt
open Pol (co Sm)

section
variable {H : Type} {enc : TypeId × Value → H} {w : World} {base : Nat} {spare : Nat → Bool} {held : Bool}
theorem open_bytes {fuel len cap : Nat} {a : Option Addr} {x : DataW H × List MemPlace} (h : DataW.trod enc Tryd.prog w base spare held fuel 22 [.slice a len cap] = some x) :
    ∃ l : List Nat, l.length = len ∧ len ≤ cap ∧ Rd w a l := by
  rcases open_ints Tryd.underlying22 Tryd.underlying5 (by kernel_rfl) h with ⟨hcs, _⟩ | ⟨a', len', cap', zs, hcs, _, hl, _, hz, _, hcell, hwz⟩
  · simp at hcs
    obtain ⟨rfl, rfl, rfl⟩ := hcs
    exact ⟨[], rfl, Nat.le_refl _, Rd.nil _ _⟩
  · simp at hcs
    obtain ⟨rfl, rfl, rfl⟩ := hcs
    have hlz : len ≤ zs.length := by rw [hz]; split <;> omega
    have hnat : ∀ i, i < zs.length → ∃ n : Nat, zs.getD i 0 = (n : Int) ∧ n < 256 := fun i hi => by
      have hm : zs.getD i 0 ∈ zs := by rw [List.getD_eq_getElem?_getD, List.getElem?_eq_getElem hi]; exact List.getElem_mem hi
      exact nat_u8 (hwz _ hm)
    refine ⟨(List.range len).map (fun i => (zs.getD i 0).toNat), by simp, hl, ?_, fun i hi => ?_⟩
    · refine Pol.co_lt_of (fun v hv => ?_)
      obtain ⟨i, hi, rfl⟩ := List.mem_map.1 hv
      obtain ⟨n, hn, hn'⟩ := hnat i (by have := List.mem_range.1 hi; omega)
      show (zs.getD i 0).toNat < 256
      rw [hn]; omega
    · have hi' : i < len := by simpa using hi
      obtain ⟨b, o, rfl, hc⟩ := ints_at hcell (by omega)
      refine ⟨b, o, rfl, ?_⟩
      rw [hc i (by omega)]
      obtain ⟨n, hn, _⟩ := hnat i (by omega)
      congr 2
      unfold co
      rw [List.getElem?_map, List.getElem?_range hi']
      show zs.getD i 0 = (((zs.getD i 0).toNat : Nat) : Int)
      rw [hn]; omega
end
end Go.Proofs.YtfhmafncpodlbaaDoor

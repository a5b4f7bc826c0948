/-
  Part 6 of the texts that the seat's proofs stand on; each part of it begins with its own sentence and conditions. Conditions: those that each theorem names.
-/
import Derived.Test.YtjifionpblpfoaaDoorBackPack5
import Derived.Deep.MidRow
import Derived.Laws.Cover3
import Derived.Lib.Hide
import Derived.Lib.SliceRun
import Derived.Laws.BytesString

/-
  What through of layer 10 does: the state behind blocks. Conditions: whole blocks, no more than 2^20 bytes; the constants lie where they were laid.
-/
namespace Go.Proofs.YtjifionpblpfoaaDoor
open Go.RowKit
open Pol (co Sm)

/-- What is behind the first k. -/
def dr (t : List Nat) (k : Nat) : List Nat := tab (t.length - k) (fun j => co t (k + j))
theorem dr_len (t : List Nat) (k : Nat) : (dr t k).length = t.length - k := tab_len _ _
theorem dr_at (t : List Nat) (k j : Nat) (h : k + j < t.length) : co (dr t k) j = co t (k + j) := by unfold dr; rw [co_tab, if_pos (by omega)]
theorem dr_ext {a b : List Nat} (hl : a.length = b.length) (h : ∀ i, i < a.length → co a i = co b i) : a = b := by
  apply List.ext_getElem hl
  intro i h1 h2
  have := h i h1
  unfold co at this
  rw [List.getElem?_eq_getElem h1, List.getElem?_eq_getElem h2] at this
  exact this
theorem dr_zero (t : List Nat) : dr t 0 = t := dr_ext (by rw [dr_len]; rfl) (fun i hi => by rw [dr_len] at hi; rw [dr_at t 0 i (by omega), Nat.zero_add])
theorem dr_more (t : List Nat) (k l : Nat) : tab ((dr t k).length - l) (fun j => co (dr t k) (l + j)) = dr t (k + l) := by
  refine dr_ext (by rw [tab_len, dr_len, dr_len]; omega) (fun i hi => ?_)
  rw [tab_len, dr_len] at hi
  rw [co_tab, if_pos (by rw [dr_len]; exact hi), dr_at t k (l + i) (by omega), dr_at t (k + l) i (by omega), Nat.add_assoc]
theorem wof_word (t : List Nat) (a : Nat) : wof (fun j => co t (a + j)) = fun i => word t (a + 4 * i) := by
  funext i
  unfold wof word
  simp only [Nat.add_assoc]
/-- Sixty-four bytes of a slice, as an array. -/
theorem range_of {w : World} {b o : Nat} {l : List Nat} (h : Rd w (some ⟨b, o, none⟩) l) (h64 : 64 ≤ l.length) : w.rangeAt b o (bt 64 (co l)).toList := by
  intro j v hv
  have hj : j < 64 := by
    have := (List.getElem?_eq_some_iff.1 hv).1
    simpa [bt_size] using this
  have e := bt_at 64 (co l) j hj
  generalize bt 64 (co l) = V at hv e
  obtain ⟨b', o', e1, hc⟩ := h.2 j (by omega)
  rw [← Array.getElem?_toList, hv] at e
  injection e1 with e1
  injection e1 with e2 e3
  subst e2; subst e3
  rw [hc, e]
theorem info_state (f : Nat → Nat) : (Tryd.prog.info? 73).map (·.size) = some (dt 8 f).size := by rw [dt_size]; kernel_rfl
theorem zero_state : (∀ w, (zeroValue 73).run Tryd.prog w = .ok (.agg (dt 8 fun _ => 0)) w) ∧ (Tryd.prog.info? 73).map (·.size) = some 8 := by
  rw [dt_zero]
  exact zero_of_info (by kernel_rfl)

theorem dr_co (t : List Nat) (k : Nat) : co (dr t k) = fun j => co t (k + j) := by
  funext j
  unfold dr
  rw [co_tab]
  by_cases h : j < t.length - k
  · rw [if_pos h]
  · rw [if_neg h]
    unfold co
    rw [List.getElem?_eq_none (by omega)]
    rfl
/-- Where through stands: the state behind g, the result. -/
structure ThrW (f : Nat → Nat) (g : Nat) (w W : World) : Prop where
  x : Ext w W
  s : WBlk 73 8 W g f
  r : WBlk 73 8 W (g + 1) (fun _ => 0)
theorem ThrW.start (f : Nat → Nat) (w : World) : ThrW f w.heap.size w ((w.alloc (.cells (dt 8 f) 73)).alloc (.cells (dt 8 fun _ => 0) 73)) := by
  have e1 : w.heap.size + 1 = (w.alloc (.cells (dt 8 f) 73)).heap.size := by simp
  refine ⟨((Ext.refl w).alloc _).alloc _, ?_, ?_⟩
  · exact (WBlk.new w f).ext ((Ext.refl _).alloc _)
  · rw [e1]
    exact WBlk.new _ _
theorem ThrW.ext {f : Nat → Nat} {g : Nat} {w W W' : World} (h : ThrW f g w W) (hx : Ext W W') : ThrW f g w W' := ⟨h.x.trans hx, h.s.ext hx, h.r.ext hx⟩
theorem ThrW.store {f : Nat → Nat} {g : Nat} {w W : World} (h : ThrW f g w W) (hg : w.heap.size = g) (j v : Nat) : ThrW (upd f j v) g w (W.setCell ⟨g, j, none⟩ (.int .u32 (v : Int))) :=
  ⟨h.x.setCell (by rw [hg]; exact Nat.le_refl _) _, h.s.store j v, (heap_setCell_other W ⟨g, j, none⟩ (g + 1) _ (by simp)).trans h.r⟩
theorem ThrW.congr {f f' : Nat → Nat} {g : Nat} {w W : World} (h : ThrW f g w W) (hf : ∀ i, i < 8 → f i = f' i) : ThrW f' g w W := ⟨h.x, h.s.congr hf, h.r⟩
theorem ThrW.drewN {f : Nat → Nat} {g : Nat} {w W : World} (h : ThrW f g w W) (q : Nat) : ThrW f g w (W.drewN q) := ⟨h.x.drewN q, h.s, h.r⟩
def AfterT (u w : World) : Prop := Ext u w

set_option maxHeartbeats 3200000 in
set_option maxRecDepth 100000 in
theorem sh_through (S t : List Nat) (A : Option Addr) (ca : Nat) (w : World) (hgl : GL w) (hS : W32 S) (hSl : S.length = 8) (hr : Rd w A t) (hc : t.length ≤ ca) (h64 : t.length % 64 = 0) (hl : t.length ≤ 1048576) :
    Calls Tryd.prog 38 #[.agg (dt 8 (co S)), .slice A t.length ca] w (Tells (.agg (dt 8 (co (hsh S KK t (t.length / 64))))) w) := by
  obtain ⟨g, hg⟩ : ∃ g, w.heap.size = g := ⟨_, rfl⟩
  have HG := Lib.hid hg
  have hst := ThrW.start (co S) w
  rw [hg] at hst
  have HST := Lib.hid hst
  have HGL := Lib.hid (fun W (h : Ext w W) => hgl.ext h)
  have HSM := Lib.hid hr.1
  have HR := Lib.hid hr
  obtain ⟨n, hn⟩ : ∃ n, t.length = n := ⟨_, rfl⟩
  have HN := Lib.hid hn
  obtain ⟨M, hM⟩ : ∃ M, n / 64 = M := ⟨_, rfl⟩
  rw [hn] at hc h64 hl ⊢
  rw [hM]
  have HM := Lib.hid (show n = 64 * M by omega)
  have HHL := Lib.hid (fun m => hsh_len S KK t hSl m)
  have HHW := Lib.hid (fun m => hsh_w32 S KK t hS m)
  have HH0 := Lib.hid (show hsh S KK t 0 = S from rfl)
  have HHS := Lib.hid (fun m => show hsh S KK t (m + 1) = blk KK (fun i => word t (64 * m + 4 * i)) (hsh S KK t m) from rfl)
  obtain ⟨V0, hV0⟩ : ∃ V, dt 8 (co S) = V := ⟨_, rfl⟩
  rw [hV0]
  generalize hsh S KK t = H at *
  have hz : dt 8 (fun _ => 0) = #[.int .u32 0, .int .u32 0, .int .u32 0, .int .u32 0, .int .u32 0, .int .u32 0, .int .u32 0, .int .u32 0] := rfl
  rw [hV0, hz] at HST
  have HD0 := Lib.hid (show Rd w A (dr t 0) from by rw [dr_zero]; exact hr)
  clear hgl hS hSl hr hn hst hM h64 hV0
  go_enter Tryd.func38, Tryd.ntmps38
  go_wp2_with fail
  generalize (w.alloc (Obj.cells V0 73)).alloc (Obj.cells #[.int .u32 0, .int .u32 0, .int .u32 0, .int .u32 0, .int .u32 0, .int .u32 0, .int .u32 0, .int .u32 0] 73) = W3 at HST ⊢
  clear hz hg
  go_loopg [1] M (fun gk s1 wx => ∃ (m a N c : Nat) (X : Option Addr), m + gk = M ∧ a = 64 * m ∧ N = n - a ∧ s1 = .slice X N c ∧ N ≤ c ∧ Rd w X (dr t a) ∧ ThrW (co (H m)) g w wx)
  case atStart => exact ⟨0, 0, n, ca, A, by omega, rfl, rfl, rfl, hc, HD0.out, by rw [HH0.out]; exact HST.out⟩
  case round =>
    obtain ⟨m, a, N, c, X, hmg, hma, hN, rfl, hNc, hrd, hw⟩ := hrel
    have HW := Lib.hid hw
    have HMG := Lib.hid hmg
    have HMA := Lib.hid hma
    have HRD := Lib.hid hrd
    clear hw hrd
    cases gk with
    | zero =>
      have hN0 : N = 0 := by have := HM.out; omega
      have hNI : decide (0 < (N : Int)) = false := decide_eq_false (by omega)
      have hmM : m = M := by omega
      rw [hmM] at HW
      clear hN hmg hma hNc
      have HIN := Lib.hid (info_state (co (H M)))
      have HSZ := Lib.hid (show (dt 8 fun _ => 0).size = (dt 8 (co (H M))).size from by rw [dt_size, dt_size])
      have HON := Lib.hid (dt_one 8 (co (H M)))
      have HG3 := Lib.hid (setRow_heap wr (g + 1) _ (dt 8 (co (H M))) _ _ HW.out.r)
      have HX3 := Lib.hid (HW.out.x.setRow (g := g + 1) (by rw [HG.out]; omega) (dt 8 (co (H M))))
      have hs := HW.out.s
      have hr := HW.out.r
      unfold WBlk at hs hr
      have HS0 := Lib.hid hs
      have HR0 := Lib.hid hr
      clear hs hr
      obtain ⟨V, hV⟩ : ∃ V, dt 8 (co (H M)) = V := ⟨_, rfl⟩
      have HVE := Lib.hid (show Value.agg V = Value.agg (dt 8 (co (H M))) from by rw [hV])
      rw [hV] at HIN HSZ HON HG3 HX3 HS0
      clear hV
      generalize dt 8 (fun _ => 0) = Z at HSZ HR0
      go_wp2_with (first | (with_reducible refine wpList_load_row rfl 73 (.tmp 2) rfl g rfl 73 V (0, 0) _ HS0.out Tryd.underlying73 rfl HIN.out ?_) | refine wpList_store_all rfl 73 (.tmp 4) (.tmp 31) rfl (g + 1) Z V rfl rfl HR0.out HIN.out HSZ.out HON.out ?_)
      exact ⟨rfl, .agg V, results_cell_row Tryd.results38 _ _ (g + 1) 73 V (0, 0) _ rfl HG3.out Tryd.underlying73 rfl HIN.out, by rw [HVE.out], HX3.out⟩
    | succ gh =>
      have hN64 : 64 ≤ N := by have := HM.out; omega
      have hNb : N ≤ 1048576 := by omega
      have hNI : decide (0 < (N : Int)) = true := decide_eq_true (by omega)
      obtain ⟨X2, hx2, hxr, _⟩ := run_rest_u8 X N c 64 hN64 hNc
      rw [show ((64 : Nat) : Int) = 64 from rfl] at hx2
      have HA := Lib.hid (fun W => run_arrayAt (P := Tryd.prog) W 99 5 64 X N c Tryd.underlying99 hN64)
      have hB : Sm (dr t a) := HRD.out.1
      obtain ⟨G, hG⟩ : ∃ G, H m = G := ⟨_, rfl⟩
      have HGW := Lib.hid (show W32 G from by rw [← hG]; exact HHW.out m)
      have HGL8 := Lib.hid (show G.length = 8 from by rw [← hG]; exact HHL.out m)
      rw [hG] at HW
      have HGE := Lib.hid hG
      obtain ⟨bx, ox, eX, _⟩ := HRD.out.2 0 (by rw [dr_len, HN.out, ← hN]; omega)
      subst eX
      have HLD := Lib.hid (fun W (h : AfterT wr W) => run_loadAt_mid (P := Tryd.prog) W bx ox 99 (bt 64 (co (dr t a))).toList (.array 64 5) (range_of (HRD.out.ext (HW.out.x.trans h)) (by rw [dr_len, HN.out, ← hN]; exact hN64)) Tryd.underlying99 rfl (by rw [Array.length_toList]; exact info_block _))
      have HLS := Lib.hid (fun W (h : AfterT wr W) => run_load_all W g 73 (dt 8 (co G)) 8 72 Tryd.underlying73 ((HW.out.ext h).s) (info_state _))
      have HSC := Lib.hid (fun W => sh_schedule (co (dr t a)) W (fun i => hB i))
      have HMX := Lib.hid (fun W (h : AfterT wr W) => sh_mix G (wl (wof (co (dr t a))) 64) W (HGL.out W (HW.out.x.trans h)) HGW.out (wl_w32 _ (wof_lt (fun i => hB i)) 64))
      obtain ⟨WL, hWL⟩ : ∃ l, wl (wof (co (dr t a))) 64 = l := ⟨_, rfl⟩
      rw [hWL] at HSC HMX
      obtain ⟨R, hR⟩ : ∃ l, rds KK WL G 64 = l := ⟨_, rfl⟩
      rw [hR] at HMX
      have HWLE := Lib.hid (fun (_ : Unit) => hWL)
      have HRE := Lib.hid (fun (_ : Unit) => hR)
      simp only [Array.toArray_toList] at HLD
      obtain ⟨VB, hVB⟩ : ∃ V, bt 64 (co (dr t a)) = V := ⟨_, rfl⟩
      obtain ⟨VL, hVL⟩ : ∃ V, dt 64 (co WL) = V := ⟨_, rfl⟩
      obtain ⟨VG, hVG⟩ : ∃ V, dt 8 (co G) = V := ⟨_, rfl⟩
      have HIR := Lib.hid (info_state (co R))
      have HSR := Lib.hid (show (dt 8 fun _ => 0).size = (dt 8 (co R)).size from by rw [dt_size, dt_size])
      have HOR := Lib.hid (dt_one 8 (co R))
      have HZL := Lib.hid (show dt 8 (fun _ => 0) = #[.int .u32 0, .int .u32 0, .int .u32 0, .int .u32 0, .int .u32 0, .int .u32 0, .int .u32 0, .int .u32 0] from rfl)
      have HVR := Lib.hid (fun (i : Nat) (hi : i < 8) => show ∀ W, (Instr.index 73 (.agg (dt 8 (co R))) (.int .i64 (i : Int))).run Tryd.prog W = .ok (.int .u32 ((co R i : Nat) : Int)) W from fun W => idx_arr Tryd.underlying73 (by kernel_rfl) (by kernel_rfl) ⟨_, rfl⟩ _ i _ hi (dt_at 8 _ i hi) W)
      obtain ⟨VR, hVR⟩ : ∃ V, dt 8 (co R) = V := ⟨_, rfl⟩
      rw [hVB] at HLD HSC
      rw [hVL] at HSC HMX
      rw [hVG] at HLS HMX
      rw [hVR] at HMX HIR HSR HOR HVR
      have HNE := Lib.hid hN
      have HXR := Lib.hid hxr
      clear hVB hVL hVG hVR hWL hR hG hB hN hmg hma hxr
      go_wp2
      refine wp_region_plan (AfterT wr) [0, 1, 2, 3, 4, 5, 6] (.yes 0 (.yes 1 (.yes 2 (.yes 3 (.two 4 (.two 5 (.one 6 (.one 7 .done)) 6 (.one 5 (.one 7 .done))) 6 (.one 4 (.one 5 (.one 7 .done)))))))) (by kernel_rfl) (fun c a a' w e h => ⟨e ▸ h.1, h.2⟩) (by kernel_rfl) ((Ext.refl wr).drew) ?_
      refine plan_load rfl 73 (.tmp 2) rfl (.agg VG) (by first | rfl | go_simp) (fun W hW => HLS.out W hW) ?_
      refine plan_yes rfl (fun K hK => ?_); go_simp; refine ⟨_, fun _ _ => rfl, hK _ ?_⟩; clear hK K
      refine plan_toArray rfl 99 (.tmp 14) rfl (.pointer (some ⟨bx, ox, none⟩)) (by first | rfl | go_simp) (fun W hW => HA.out W) ?_
      refine plan_load rfl 99 (.tmp 15) rfl (.agg VB) (by first | rfl | go_simp) (fun W hW => HLD.out W hW) ?_
      refine plan_two rfl rfl (fun K hK => ?_) (fun K hK => ?_)
      · go_wp2_with fail
        refine (HSC.out _).mono ?_
        rintro e v4 ⟨rfl, hx4⟩
        have HX4 := Lib.hid (show AfterT wr v4 from Ext.trans ((Ext.refl wr).drew) hx4)
        clear hx4
        go_wp2
        refine ⟨fun _ => HX4.out, ?_⟩
        refine plan_two rfl rfl (fun K hK => ?_) (fun K hK => ?_)
        · go_wp2_with fail
          refine (HMX.out _ HX4.out).mono ?_
          rintro e v5 ⟨rfl, hx5⟩
          have HX5 := Lib.hid (show AfterT wr v5 from Ext.trans HX4.out hx5)
          clear hx5
          go_wp2
          refine ⟨fun _ => HX5.out, ?_⟩
          refine plan_one rfl (fun K hK => ?_)
          go_wp2
          have HX6 := Lib.hid (show AfterT wr (World.alloc v5 (.cells (dt 8 fun _ => 0) 73)) from Ext.alloc HX5.out _)
          have HB6 := Lib.hid (WBlk.new (T := 73) (n := 8) v5 (fun _ => 0))
          have HGX := Lib.hid (show wr.heap.size ≤ (v5).heap.size from Ext.size HX5.out)
          rw [HZL.out] at HX6 HB6
          refine ⟨fun _ => HX6.out, ?_⟩
          generalize hgx : (v5).heap.size = gx at HB6 HGX ⊢
          generalize World.alloc v5 _ = v6 at HX6 HB6 ⊢
          clear hgx
          refine plan_one rfl (fun K hK => ?_)
          have HG7 := Lib.hid (setRow_heap _ gx _ VR _ _ HB6.out)
          have HX7 := Lib.hid (Ext.setRow HX6.out HGX.out VR)
          have hb0 := HB6.out
          unfold WBlk at hb0
          have HB0 := Lib.hid hb0
          clear hb0
          go_wp2_with (with_reducible refine wpList_store_all rfl 73 (.tmp 5) (.tmp 18) rfl gx (dt 8 fun _ => 0) VR rfl rfl HB0.out HIR.out HSR.out HOR.out ?_)
          refine ⟨fun h => absurd h (by decide), ?_⟩
          unfold wpPlan
          obtain ⟨wz, hwz⟩ : ∃ q, World.setRow v6 gx VR = q := ⟨_, rfl⟩
          rw [hwz] at HG7 HX7 ⊢
          clear hwz
          have HWZ := Lib.hid (HW.out.ext HX7.out)
          go_wp2_with (with_reducible refine wpList_load_row rfl 73 (.tmp 5) rfl gx rfl 73 VR (0, 0) _ HG7.out Tryd.underlying73 rfl HIR.out ?_)
          go_loopg [20] 8 (fun gj s20 wx => ∃ j : Nat, j + gj = 8 ∧ s20 = .int .i64 (j : Int) ∧ ThrW (fun k => if k < j then sumw G R k else co G k) g w wx)
          case atStart => exact ⟨0, by omega, rfl, HWZ.out.congr (fun k _ => rfl)⟩
          case round =>
            obtain ⟨j, hjg, rfl, hj⟩ := hrel
            cases gk with
            | zero =>
              obtain rfl : j = 8 := by omega
              have HJ := Lib.hid hj
              clear hj hjg
              have HN2 := Lib.hid (HJ.out.congr (f' := co (H (m + 1))) (fun k hk => by
                rw [if_pos hk, HHS.out m, HGE.out, ← HMA.out]
                unfold blk
                rw [co_map _ _ _ (by rw [List.length_range]; exact hk), show co (List.range 8) k = k from by unfold co; rw [List.getElem?_range hk]; rfl, ← HRE.out (), ← HWLE.out (), dr_co, wof_word]))
              have HRX := Lib.hid (show Rd w X2 (dr t (a + 64)) from by
                have h := HXR.out w _ HRD.out (by rw [dr_len, HN.out, HNE.out])
                have e := dr_more t a 64
                rw [dr_len, HN.out, ← HNE.out] at e
                rw [e] at h
                exact h)
              go_wp2
              go_roundg gh
              case measure => exact Nat.lt_succ_self _
              case rel => exact ⟨m + 1, a + 64, N - 64, c - 64, X2, by have := HMG.out; omega, by have := HMA.out; omega, by have := HNE.out; omega, rfl, by omega, HRX.out, HN2.out⟩
            | succ gk =>
              have hj8 : j < 8 := by omega
              have hjI : (j : Int) < 8 := by omega
              have HJG := Lib.hid hjg
              have hcl := hj.s.cell j hj8
              have hfz := hj.s.frozen j
              rw [if_neg (Nat.lt_irrefl j)] at hcl
              have hix := HVR.out j hj8
              obtain ⟨z, hz⟩ : ∃ z, sumw G R j = z := ⟨_, rfl⟩
              have HU := Lib.hid (fun (_ : Unit) => hz)
              unfold sumw at hz
              have bG := HGW.out.at j
              generalize co G j = x at hcl hz bG
              generalize co R j = y at hix hz
              have HJ := Lib.hid hj
              clear hj hjg
              have hsum : IntKind.u32.wrap ((x : Int) + (y : Int)) = (z : Int) := by
                rw [← hz]
                rw [IntKind.wrap_u32]
                omega
              have HNX := Lib.hid ((HJ.out.store HG.out j z).congr (f' := fun k => if k < j + 1 then sumw G R k else co G k) (fun k _ => by
                unfold upd
                show (if k = j then z else if k < j then sumw G R k else co G k) = if k < j + 1 then sumw G R k else co G k
                by_cases e : k = j
                · subst e; rw [if_pos rfl, if_pos (Nat.lt_succ_self _), HU.out ()]
                · rw [if_neg e]
                  by_cases h : k < j
                  · rw [if_pos h, if_pos (by omega)]
                  · rw [if_neg h, if_neg (by omega)]))
              go_wp2
              go_roundg gk
              case measure => exact Nat.lt_succ_self _
              case rel => exact ⟨j + 1, by have := HJG.out; omega, by go_num, HNX.out⟩
        · go_wp2
          have HX6 := Lib.hid (show AfterT wr (World.alloc v4 (.cells (dt 8 fun _ => 0) 73)) from Ext.alloc HX4.out _)
          have HB6 := Lib.hid (WBlk.new (T := 73) (n := 8) v4 (fun _ => 0))
          have HGX := Lib.hid (show wr.heap.size ≤ (v4).heap.size from Ext.size HX4.out)
          rw [HZL.out] at HX6 HB6
          refine ⟨fun _ => HX6.out, ?_⟩
          generalize hgx : (v4).heap.size = gx at HB6 HGX ⊢
          generalize World.alloc v4 _ = v6 at HX6 HB6 ⊢
          clear hgx
          refine plan_one rfl (fun K hK => ?_)
          go_wp2_with fail
          refine (HMX.out _ HX6.out).mono ?_
          rintro e v5 ⟨rfl, hx5⟩
          have HX5 := Lib.hid (show AfterT wr v5 from Ext.trans HX6.out hx5)
          have HB5 := Lib.hid (WBlk.ext HB6.out hx5)
          clear hx5
          go_wp2
          refine ⟨fun _ => HX5.out, ?_⟩
          refine plan_one rfl (fun K hK => ?_)
          have HG7 := Lib.hid (setRow_heap _ gx _ VR _ _ HB5.out)
          have HX7 := Lib.hid (Ext.setRow HX5.out HGX.out VR)
          have hb0 := HB5.out
          unfold WBlk at hb0
          have HB0 := Lib.hid hb0
          clear hb0
          go_wp2_with (with_reducible refine wpList_store_all rfl 73 (.tmp 5) (.tmp 18) rfl gx (dt 8 fun _ => 0) VR rfl rfl HB0.out HIR.out HSR.out HOR.out ?_)
          refine ⟨fun h => absurd h (by decide), ?_⟩
          unfold wpPlan
          obtain ⟨wz, hwz⟩ : ∃ q, World.setRow v5 gx VR = q := ⟨_, rfl⟩
          rw [hwz] at HG7 HX7 ⊢
          clear hwz
          have HWZ := Lib.hid (HW.out.ext HX7.out)
          go_wp2_with (with_reducible refine wpList_load_row rfl 73 (.tmp 5) rfl gx rfl 73 VR (0, 0) _ HG7.out Tryd.underlying73 rfl HIR.out ?_)
          go_loopg [20] 8 (fun gj s20 wx => ∃ j : Nat, j + gj = 8 ∧ s20 = .int .i64 (j : Int) ∧ ThrW (fun k => if k < j then sumw G R k else co G k) g w wx)
          case atStart => exact ⟨0, by omega, rfl, HWZ.out.congr (fun k _ => rfl)⟩
          case round =>
            obtain ⟨j, hjg, rfl, hj⟩ := hrel
            cases gk with
            | zero =>
              obtain rfl : j = 8 := by omega
              have HJ := Lib.hid hj
              clear hj hjg
              have HN2 := Lib.hid (HJ.out.congr (f' := co (H (m + 1))) (fun k hk => by
                rw [if_pos hk, HHS.out m, HGE.out, ← HMA.out]
                unfold blk
                rw [co_map _ _ _ (by rw [List.length_range]; exact hk), show co (List.range 8) k = k from by unfold co; rw [List.getElem?_range hk]; rfl, ← HRE.out (), ← HWLE.out (), dr_co, wof_word]))
              have HRX := Lib.hid (show Rd w X2 (dr t (a + 64)) from by
                have h := HXR.out w _ HRD.out (by rw [dr_len, HN.out, HNE.out])
                have e := dr_more t a 64
                rw [dr_len, HN.out, ← HNE.out] at e
                rw [e] at h
                exact h)
              go_wp2
              go_roundg gh
              case measure => exact Nat.lt_succ_self _
              case rel => exact ⟨m + 1, a + 64, N - 64, c - 64, X2, by have := HMG.out; omega, by have := HMA.out; omega, by have := HNE.out; omega, rfl, by omega, HRX.out, HN2.out⟩
            | succ gk =>
              have hj8 : j < 8 := by omega
              have hjI : (j : Int) < 8 := by omega
              have HJG := Lib.hid hjg
              have hcl := hj.s.cell j hj8
              have hfz := hj.s.frozen j
              rw [if_neg (Nat.lt_irrefl j)] at hcl
              have hix := HVR.out j hj8
              obtain ⟨z, hz⟩ : ∃ z, sumw G R j = z := ⟨_, rfl⟩
              have HU := Lib.hid (fun (_ : Unit) => hz)
              unfold sumw at hz
              have bG := HGW.out.at j
              generalize co G j = x at hcl hz bG
              generalize co R j = y at hix hz
              have HJ := Lib.hid hj
              clear hj hjg
              have hsum : IntKind.u32.wrap ((x : Int) + (y : Int)) = (z : Int) := by
                rw [← hz]
                rw [IntKind.wrap_u32]
                omega
              have HNX := Lib.hid ((HJ.out.store HG.out j z).congr (f' := fun k => if k < j + 1 then sumw G R k else co G k) (fun k _ => by
                unfold upd
                show (if k = j then z else if k < j then sumw G R k else co G k) = if k < j + 1 then sumw G R k else co G k
                by_cases e : k = j
                · subst e; rw [if_pos rfl, if_pos (Nat.lt_succ_self _), HU.out ()]
                · rw [if_neg e]
                  by_cases h : k < j
                  · rw [if_pos h, if_pos (by omega)]
                  · rw [if_neg h, if_neg (by omega)]))
              go_wp2
              go_roundg gk
              case measure => exact Nat.lt_succ_self _
              case rel => exact ⟨j + 1, by have := HJG.out; omega, by go_num, HNX.out⟩
      · go_wp2
        have HX6 := Lib.hid (show AfterT wr (World.drew (World.alloc wr (.cells (dt 8 fun _ => 0) 73))) from (Ext.alloc (Ext.refl wr) _).drew)
        have HB6 := Lib.hid (show WBlk 73 8 (World.drew (World.alloc wr (.cells (dt 8 fun _ => 0) 73))) wr.heap.size (fun _ => 0) from WBlk.new (T := 73) (n := 8) wr (fun _ => 0))
        rw [HZL.out] at HX6 HB6
        refine ⟨fun _ => HX6.out, ?_⟩
        generalize hgx : wr.heap.size = gx at HB6 ⊢
        have HGX := Lib.hid (Nat.le_of_eq hgx)
        generalize (World.alloc wr _).drew = v6 at HX6 HB6 ⊢
        clear hgx
        refine plan_one rfl (fun K hK => ?_)
        go_wp2_with fail
        refine (HSC.out _).mono ?_
        rintro e v4 ⟨rfl, hx4⟩
        have HX4 := Lib.hid (show AfterT wr v4 from Ext.trans HX6.out hx4)
        have HB4 := Lib.hid (WBlk.ext HB6.out hx4)
        clear hx4
        go_wp2
        refine ⟨fun _ => HX4.out, ?_⟩
        refine plan_one rfl (fun K hK => ?_)
        go_wp2_with fail
        refine (HMX.out _ HX4.out).mono ?_
        rintro e v5 ⟨rfl, hx5⟩
        have HX5 := Lib.hid (show AfterT wr v5 from Ext.trans HX4.out hx5)
        have HB5 := Lib.hid (WBlk.ext HB4.out hx5)
        clear hx5
        go_wp2
        refine ⟨fun _ => HX5.out, ?_⟩
        refine plan_one rfl (fun K hK => ?_)
        have HG7 := Lib.hid (setRow_heap _ gx _ VR _ _ HB5.out)
        have HX7 := Lib.hid (Ext.setRow HX5.out HGX.out VR)
        have hb0 := HB5.out
        unfold WBlk at hb0
        have HB0 := Lib.hid hb0
        clear hb0
        go_wp2_with (with_reducible refine wpList_store_all rfl 73 (.tmp 5) (.tmp 18) rfl gx (dt 8 fun _ => 0) VR rfl rfl HB0.out HIR.out HSR.out HOR.out ?_)
        refine ⟨fun h => absurd h (by decide), ?_⟩
        unfold wpPlan
        obtain ⟨wz, hwz⟩ : ∃ q, World.setRow v5 gx VR = q := ⟨_, rfl⟩
        rw [hwz] at HG7 HX7 ⊢
        clear hwz
        have HWZ := Lib.hid (HW.out.ext HX7.out)
        go_wp2_with (with_reducible refine wpList_load_row rfl 73 (.tmp 5) rfl gx rfl 73 VR (0, 0) _ HG7.out Tryd.underlying73 rfl HIR.out ?_)
        go_loopg [20] 8 (fun gj s20 wx => ∃ j : Nat, j + gj = 8 ∧ s20 = .int .i64 (j : Int) ∧ ThrW (fun k => if k < j then sumw G R k else co G k) g w wx)
        case atStart => exact ⟨0, by omega, rfl, HWZ.out.congr (fun k _ => rfl)⟩
        case round =>
          obtain ⟨j, hjg, rfl, hj⟩ := hrel
          cases gk with
          | zero =>
            obtain rfl : j = 8 := by omega
            have HJ := Lib.hid hj
            clear hj hjg
            have HN2 := Lib.hid (HJ.out.congr (f' := co (H (m + 1))) (fun k hk => by
              rw [if_pos hk, HHS.out m, HGE.out, ← HMA.out]
              unfold blk
              rw [co_map _ _ _ (by rw [List.length_range]; exact hk), show co (List.range 8) k = k from by unfold co; rw [List.getElem?_range hk]; rfl, ← HRE.out (), ← HWLE.out (), dr_co, wof_word]))
            have HRX := Lib.hid (show Rd w X2 (dr t (a + 64)) from by
              have h := HXR.out w _ HRD.out (by rw [dr_len, HN.out, HNE.out])
              have e := dr_more t a 64
              rw [dr_len, HN.out, ← HNE.out] at e
              rw [e] at h
              exact h)
            go_wp2
            go_roundg gh
            case measure => exact Nat.lt_succ_self _
            case rel => exact ⟨m + 1, a + 64, N - 64, c - 64, X2, by have := HMG.out; omega, by have := HMA.out; omega, by have := HNE.out; omega, rfl, by omega, HRX.out, HN2.out⟩
          | succ gk =>
            have hj8 : j < 8 := by omega
            have hjI : (j : Int) < 8 := by omega
            have HJG := Lib.hid hjg
            have hcl := hj.s.cell j hj8
            have hfz := hj.s.frozen j
            rw [if_neg (Nat.lt_irrefl j)] at hcl
            have hix := HVR.out j hj8
            obtain ⟨z, hz⟩ : ∃ z, sumw G R j = z := ⟨_, rfl⟩
            have HU := Lib.hid (fun (_ : Unit) => hz)
            unfold sumw at hz
            have bG := HGW.out.at j
            generalize co G j = x at hcl hz bG
            generalize co R j = y at hix hz
            have HJ := Lib.hid hj
            clear hj hjg
            have hsum : IntKind.u32.wrap ((x : Int) + (y : Int)) = (z : Int) := by
              rw [← hz]
              rw [IntKind.wrap_u32]
              omega
            have HNX := Lib.hid ((HJ.out.store HG.out j z).congr (f' := fun k => if k < j + 1 then sumw G R k else co G k) (fun k _ => by
              unfold upd
              show (if k = j then z else if k < j then sumw G R k else co G k) = if k < j + 1 then sumw G R k else co G k
              by_cases e : k = j
              · subst e; rw [if_pos rfl, if_pos (Nat.lt_succ_self _), HU.out ()]
              · rw [if_neg e]
                by_cases h : k < j
                · rw [if_pos h, if_pos (by omega)]
                · rw [if_neg h, if_neg (by omega)]))
            go_wp2
            go_roundg gk
            case measure => exact Nat.lt_succ_self _
            case rel => exact ⟨j + 1, by have := HJG.out; omega, by go_num, HNX.out⟩
end Go.Proofs.YtjifionpblpfoaaDoor

/-
  What bytes.Clone does. Conditions: no more than 2^16 bytes.
-/
namespace Go.Proofs.YtjifionpblpfoaaDoor
open Go.RowKit
open Pol (co Sm)

/-- Bytes of a call's own that read as these. -/
def CloneS (t : List Nat) (w : World) (e : Ending) (w' : World) : Prop := Ext w w' ∧ ∃ v, e = .returned v ∧ Mine w' w.heap.size v t
set_option maxHeartbeats 800000 in
set_option maxRecDepth 100000 in
theorem cr_clone (t : List Nat) (A : Option Addr) (c : Nat) (w : World) (hr : Rd w A t) (hl : t.length ≤ 65536) : Calls Tryd.prog 59 #[.slice A t.length c] w (CloneS t w) := by
  unfold CloneS
  have HR := Lib.hid hr
  obtain ⟨n, hn⟩ : ∃ n, t.length = n := ⟨_, rfl⟩
  have HN := Lib.hid hn
  rw [hn] at hl ⊢
  have qn : ∀ (W : World) (B : Option Addr) (n c : Nat), (binOp .eql 23 (.slice B n c) (.slice none 0 0)).run Tryd.prog W = .ok (.bool B.isNone) W := fun W B n c => Lib.run_eql_slice_nil W _ _ B n c 0 0 Tryd.underlying23
  cases A with
  | none =>
    have ht : t = [] := by
      rcases Nat.eq_zero_or_pos t.length with h | h
      · exact List.eq_nil_of_length_eq_zero h
      · obtain ⟨_, _, e, _⟩ := hr.2 0 h; cases e
    have HT := Lib.hid ht
    clear hr hn ht
    go_enter Tryd.func59, Tryd.ntmps59
    go_wp2
    skip
    go_ret
    exact ⟨Ext.refl _, _, rfl, by rw [HT.out]; exact Mine.nil _ _⟩
  | some a =>
    have hx := (Ext.refl w).alloc (.cells #[] 5)
    have HX := Lib.hid hx
    have HM := Lib.hid (mine_empty w)
    clear hr hn hx
    go_enter Tryd.func59, Tryd.ntmps59
    go_wp2_with (at_builtin; refine wpList_append_rd rfl (.tmp 5) (.tmp 6) rfl w.heap.size (.slice (some ⟨w.heap.size, 0, none⟩) 0 0) [] t rfl HM.out (some a) n c rfl HN.out (HR.out.ext HX.out) (by rw [HN.out]; simp; omega) HX.out.size ?_; intro v' w3 hown' hg' hat'; rw [List.nil_append] at hown'; have HM2 := Lib.hid hown'; have HX2 := Lib.hid (HX.out.more hg' (fun k e => (HM.out.block k e).1)); clear hown' hg' hat')
    go_ret
    exact ⟨HX2.out, _, rfl, HM2.out⟩
end Go.Proofs.YtjifionpblpfoaaDoor

/-
  What ending of layer 10 does: the bytes behind the last whole block, filled up. Conditions: no more than 2^20 bytes in all; fewer than 64 are left.
-/
namespace Go.Proofs.YtjifionpblpfoaaDoor
open Go.RowKit
open Pol (co Sm)

/-- What stands behind an input of n bytes, of which r are left. -/
def endb (r : List Nat) (n : Nat) : List Nat := r ++ [128] ++ List.replicate (padz n) 0 ++ (List.range 8).map (len8 n)
theorem padz_mod (r n : Nat) (h : r = n % 64) : padz r = padz n := by
  subst h
  unfold padz
  omega
theorem endb_len (r : List Nat) (n : Nat) : (endb r n).length = r.length + 1 + padz n + 8 := by
  unfold endb
  simp only [List.length_append, List.length_singleton, List.length_replicate, List.length_map, List.length_range]
theorem endb_padded (t : List Nat) (k : Nat) : t.take k ++ endb (t.drop k) t.length = padded t := by
  unfold endb padded
  simp only [← List.append_assoc, List.take_append_drop]
theorem endb_sm {r : List Nat} (h : Sm r) (n : Nat) : Sm (endb r n) := by
  unfold endb
  refine sm_app (sm_app (sm_app h (Sm.cons (by omega) Sm.nil)) (Pol.co_lt_of fun x hx => by rw [(List.mem_replicate.1 hx).2]; omega)) (Pol.co_lt_of fun x hx => ?_)
  obtain ⟨q, _, rfl⟩ := List.mem_map.1 hx
  exact Nat.mod_lt _ (by decide)

set_option maxHeartbeats 1600000 in
set_option maxRecDepth 100000 in
theorem sh_ending (b : List Nat) (A : Option Addr) (ca N : Nat) (w : World) (hr : Rd w A b) (h64 : b.length = N % 64) (hN : N ≤ 1048576) :
    Calls Tryd.prog 39 #[.slice A b.length ca, .int .i64 (N : Int)] w (Gives (endb b N) w) := by
  obtain ⟨base, hbase⟩ : ∃ g, w.heap.size = g := ⟨_, rfl⟩
  have HB := Lib.hid hbase
  have HCL := Lib.hid (cr_clone b A ca w hr (by omega))
  have HE8 := Lib.hid (endb_sm hr.1 N)
  obtain ⟨n, hn⟩ : ∃ n, b.length = n := ⟨_, rfl⟩
  have HN := Lib.hid hn
  have HR := Lib.hid hr.1
  rw [hn] at h64 HCL ⊢
  have hn64 : n < 64 := by omega
  have HNM := Lib.hid h64
  have hpm := padz_mod n N h64
  clear hr hn h64 hbase
  go_enter Tryd.func39, Tryd.ntmps39
  go_wp2_with fail
  refine (HCL.out).mono ?_
  rintro e wc ⟨hxc, v7, rfl, hmc⟩
  rw [HB.out] at hmc
  have HX7 := Lib.hid hxc
  have HM7 := Lib.hid hmc
  clear hxc hmc
  go_wp2_with (at_builtin; refine wpList_append_rd rfl (.tmp 9) (.tmp 10) rfl base v7 b [128] rfl (mine_ext HM7.out ((Ext.refl _).alloc _)) (some ⟨wc.heap.size, 0, none⟩) 1 1 rfl rfl (rd_one wc 128 (by omega)) (by rw [HN.out]; simp; omega) (by have := HX7.out.size; have := HB.out; simp; omega) ?_; intro v8 w8 hown8 hg8 hat8; have HX8 := Lib.hid ((HX7.out.alloc (.cells #[.int .u8 128] 5)).more hg8 (fun q hq => by rw [HB.out]; exact (HM7.out.block q hq).1)); have HM8 := Lib.hid hown8; clear hown8 hg8 hat8)
  have HS8 := Lib.hid (show Sm (b ++ [128]) from sm_app HR.out (Sm.cons (by omega) Sm.nil))
  obtain ⟨pz, hpz⟩ : ∃ pz, padz n = pz := ⟨_, rfl⟩
  have hpz64 : pz < 64 := by rw [← hpz]; unfold padz; omega
  have HPZ := Lib.hid (fun j (h : j ≤ pz) => show (n + 1 + j) % 64 = 56 ↔ j = pz from by rw [← hpz] at h ⊢; exact padz_stop n j h)
  have HZP := Lib.hid (fun (_ : Unit) => show padz N = pz from by rw [← hpm, hpz])
  have HLZ := Lib.hid (fun j => show (b ++ [128] ++ List.replicate j 0).length = n + 1 + j from by simp [HN.out]; omega)
  have HZS := Lib.hid (fun j => show b ++ [128] ++ List.replicate (j + 1) 0 = b ++ [128] ++ List.replicate j 0 ++ [0] from by rw [List.replicate_succ', ← List.append_assoc])
  have HSZ := Lib.hid (fun j => show Sm (b ++ [128] ++ List.replicate j 0) from sm_app HS8.out (Pol.co_lt_of fun x hx => by rw [(List.mem_replicate.1 hx).2]; omega))
  have HM8' := Lib.hid (show Mine w8 base v8 (b ++ [128] ++ List.replicate 0 0) from by rw [List.replicate_zero, List.append_nil]; exact HM8.out)
  clear hpz hpm
  go_loopg [5] pz (fun gk s5 wx => ∃ j : Nat, j + gk = pz ∧ Mine wx base s5 (b ++ [128] ++ List.replicate j 0) ∧ Ext w wx)
  case atStart => exact ⟨0, by omega, HM8'.out, HX8.out⟩
  case round =>
    obtain ⟨j, hjg, hm, hx⟩ := hrel
    have HM := Lib.hid hm
    have HXX := Lib.hid hx
    obtain ⟨B7, c7, rfl, hc7, _⟩ := hm.slice (HSZ.out j)
    rw [HLZ.out] at hc7 HM ⊢
    have hs7 := hx.size
    rw [HB.out] at hs7
    have HJG := Lib.hid hjg
    clear hm hx
    obtain ⟨L, hL⟩ : ∃ L, n + 1 + j = L := ⟨_, rfl⟩
    have HL := Lib.hid hL
    have hz := HPZ.out j (by omega)
    rw [hL] at hc7 HM hz ⊢
    have hLb : L < 1048576 := by omega
    have em : (L : Int).tmod 64 = ((L % 64 : Nat) : Int) := by rw [Int.tmod_eq_emod_of_nonneg (by omega)]; omega
    clear hL
    cases gk with
    | zero =>
      obtain rfl : j = pz := by omega
      have hz' : L % 64 = 56 := hz.2 rfl
      have em' : (L : Int) % 64 = 56 := by omega
      clear hz hjg em hz'
      have ew : IntKind.u64.wrap (N : Int) = (N : Int) := by rw [IntKind.wrap_u64]; omega
      have ew8 : IntKind.u64.wrap (8 * (N : Int)) = (N : Int) * 8 := by rw [IntKind.wrap_u64]; omega
      go_wp2_with fail
      rw [← HZP.out ()] at HM
      have HMT := Lib.hid (show Mine wr base (.slice B7 L c7) (b ++ [128] ++ List.replicate (padz N) 0 ++ (List.range 0).map (len8 N)) from by rw [List.range_zero, List.map_nil, List.append_nil]; exact HM.out)
      have HXT := HXX
      have HST := Lib.hid (fun j => show Sm (b ++ [128] ++ List.replicate (padz N) 0 ++ (List.range j).map (len8 N)) from sm_app (HSZ.out _) (Pol.co_lt_of fun x hx => by
        obtain ⟨q, _, rfl⟩ := List.mem_map.1 hx
        exact Nat.mod_lt _ (by decide)))
      have HLT := Lib.hid (fun j => show (b ++ [128] ++ List.replicate (padz N) 0 ++ (List.range j).map (len8 N)).length = n + 1 + padz N + j from by rw [List.length_append, HLZ.out, List.length_map, List.length_range])
      have HTS := Lib.hid (fun j => show b ++ [128] ++ List.replicate (padz N) 0 ++ (List.range (j + 1)).map (len8 N) = b ++ [128] ++ List.replicate (padz N) 0 ++ (List.range j).map (len8 N) ++ [len8 N j] from by rw [List.range_succ, List.map_append, ← List.append_assoc]; rfl)
      have HV := Lib.hid (fun j => len8_at N j)
      have hp64 : padz N < 64 := by unfold padz; omega
      clear HM HXX hc7 hs7 hLb HL em' hpz64 ew ew8
      obtain ⟨wt, hwt⟩ : ∃ q, q = wr := ⟨_, rfl⟩
      subst hwt
      go_loopg [5, 22] 8 (fun gk s5 s22 wx => ∃ j : Nat, j + gk = 8 ∧ s22 = .int .i64 (j : Int) ∧ Mine wx base s5 (b ++ [128] ++ List.replicate (padz N) 0 ++ (List.range j).map (len8 N)) ∧ Ext w wx)
      case atStart => exact ⟨0, by omega, rfl, HMT.out, HXT.out⟩
      case round =>
        obtain ⟨j, hjg, rfl, hm, hx⟩ := hrel
        have HM := Lib.hid hm
        have HXX := Lib.hid hx
        obtain ⟨B7, c7, rfl, hc7, _⟩ := hm.slice (HST.out j)
        rw [HLT.out] at hc7 HM ⊢
        have hs7 := hx.size
        rw [HB.out] at hs7
        have HJG := Lib.hid hjg
        clear hm hx
        cases gk with
        | zero =>
          obtain rfl : j = 8 := by omega
          go_wp2
          go_ret
          exact gives_of HM.out rfl HE8.out HXX.out
        | succ gk =>
          have hj8 : j < 8 := by omega
          have hjI : (j : Int) < 8 := by omega
          obtain ⟨v, hv⟩ : ∃ v, 56 - 8 * j = v := ⟨_, rfl⟩
          have hvI : 56 - 8 * (j : Int) = (v : Int) := by omega
          have hq2 := HV.out j v (by omega)
          obtain ⟨d, hd⟩ : ∃ d, len8 N j = d := ⟨_, rfl⟩
          have hd8 : d < 256 := by rw [← hd]; exact Nat.mod_lt _ (by decide)
          have HTJ := Lib.hid (fun (_ : Unit) => HTS.out j)
          rw [hd] at HTJ hq2
          have hq3 : (N : Int) * 8 / 2 ^ v % 256 = (d : Int) := by
            have e : min (IntKind.u64.wrap (v : Int)).toNat 64 = v := by rw [IntKind.wrap_u64]; omega
            rw [e] at hq2
            exact hq2
          clear hq2
          have e1 : wrap64 (8 * (j : Int)) = 8 * (j : Int) := by unfold wrap64; omega
          have e2 : wrap64 (56 - 8 * (j : Int)) = (v : Int) := by unfold wrap64; omega
          obtain ⟨L, hL⟩ : ∃ L, n + 1 + padz N + j = L := ⟨_, rfl⟩
          have HL := Lib.hid hL
          rw [hL] at hc7 HM ⊢
          have hLb : L < 1048576 := by omega
          clear hL hd hv hjg
          go_wp2_with (at_builtin; refine wpList_append_rd rfl (.tmp 25) (.tmp 32) rfl base (.slice B7 L c7) (b ++ [128] ++ List.replicate (padz N) 0 ++ (List.range j).map (len8 N)) [d] rfl (mine_ext HM.out ((Ext.refl _).alloc _)) (some ⟨wr.heap.size, 0, none⟩) 1 1 rfl rfl (rd_one wr d hd8) (by rw [HLT.out, HL.out]; simp; omega) (by simp; omega) ?_; intro v9 w9 hown9 hg9 hat9; rw [← (HTJ.out ())] at hown9; have HX9 := Lib.hid ((HXX.out.alloc (.cells #[.int .u8 (d : Int)] 5)).more hg9 (fun q hq => by rw [HB.out]; exact (HM.out.block q hq).1)); have HM9 := Lib.hid hown9; clear hown9 hg9 hat9)
          go_roundg gk
          case measure => omega
          case rel => exact ⟨j + 1, by have := HJG.out; omega, by go_num, HM9.out, HX9.out⟩
    | succ gk =>
      have hz' : L % 64 ≠ 56 := fun h => by have := hz.1 h; omega
      have em' : (L : Int) % 64 ≠ 56 := by omega
      clear hz hjg em hz'
      go_wp2_with (at_builtin; refine wpList_append_rd rfl (.tmp 16) (.tmp 17) rfl base (.slice B7 L c7) (b ++ [128] ++ List.replicate j 0) [0] rfl (mine_ext HM.out ((Ext.refl _).alloc _)) (some ⟨wr.heap.size, 0, none⟩) 1 1 rfl rfl (rd_one wr 0 (by omega)) (by rw [HLZ.out, HL.out]; simp; omega) (by simp; omega) ?_; intro v9 w9 hown9 hg9 hat9; rw [← HZS.out] at hown9; have HX9 := Lib.hid ((HXX.out.alloc (.cells #[.int .u8 0] 5)).more hg9 (fun q hq => by rw [HB.out]; exact (HM.out.block q hq).1)); have HM9 := Lib.hid hown9; clear hown9 hg9 hat9)
      go_roundg gk
      case measure => omega
      case rel => exact ⟨j + 1, by have := HJG.out; omega, HM9.out, HX9.out⟩
end Go.Proofs.YtjifionpblpfoaaDoor

/-
  What Of of layer 10 does. Conditions: no more than 2^16 bytes; the constants lie where they were laid.
-/
namespace Go.Proofs.YtjifionpblpfoaaDoor
open Go.RowKit
open Pol (co Sm)

theorem wl_congr {f f' : Nat → Nat} (h : ∀ i, i < 16 → f i = f' i) : ∀ n, wl f n = wl f' n
  | 0 => rfl
  | n + 1 => by
    rw [wl, wl, wl_congr h n]
    by_cases e : n < 16
    · rw [if_pos e, if_pos e, h n e]
    · rw [if_neg e, if_neg e]
theorem blk_congr {K H : List Nat} {f f' : Nat → Nat} (h : ∀ i, i < 16 → f i = f' i) : blk K f H = blk K f' H := by unfold blk; rw [wl_congr h 64]
/-- Blocks of one list, then of another. -/
theorem hsh_left {H K t u : List Nat} : ∀ n, 64 * n ≤ t.length → hsh H K (t ++ u) n = hsh H K t n
  | 0, _ => rfl
  | n + 1, h => by
    rw [hsh, hsh, hsh_left n (by omega)]
    refine blk_congr (fun i hi => ?_)
    have e : ∀ j, j < t.length → co (t ++ u) j = co t j := fun j hj => by unfold co; rw [List.getElem?_append_left hj]
    unfold word
    rw [e _ (by omega), e _ (by omega), e _ (by omega), e _ (by omega)]
theorem hsh_right {H K t u : List Nat} {m : Nat} (h : t.length = 64 * m) : ∀ n, hsh (hsh H K t m) K u n = hsh H K (t ++ u) (m + n)
  | 0 => by rw [hsh, Nat.add_zero, hsh_left m (by omega)]
  | n + 1 => by
    rw [hsh, hsh_right h n, ← Nat.add_assoc, hsh]
    refine blk_congr (fun i hi => ?_)
    have e : ∀ j k, j = t.length + k → co u k = co (t ++ u) j := fun j k hj => by
      subst hj
      unfold co
      rw [List.getElem?_append_right (by omega), Nat.add_sub_cancel_left]
    unfold word
    rw [e (64 * (m + n) + 4 * i) (64 * n + 4 * i) (by omega), e (64 * (m + n) + 4 * i + 1) (64 * n + 4 * i + 1) (by omega), e (64 * (m + n) + 4 * i + 2) (64 * n + 4 * i + 2) (by omega), e (64 * (m + n) + 4 * i + 3) (64 * n + 4 * i + 3) (by omega)]

/-- The block of an array of 32 bits' numbers behind a loop that writes another block. -/
theorem WBlk.grown {T : TypeId} {n : Nat} {w w' : World} {g d : Nat} {f : Nat → Nat} (h : WBlk T n w g f) (hg : w.grownBy w' (some d)) (hne : g ≠ d) : WBlk T n w' g f := h.keep hg (fun e => hne (by injection e))

set_option maxHeartbeats 3200000 in
set_option maxRecDepth 100000 in
theorem sh_of (b : List Nat) (A : Option Addr) (ca : Nat) (w : World) (hgl : GL w) (hr : Rd w A b) (hc : b.length ≤ ca) (hl : b.length ≤ 65536) :
    Calls Tryd.prog 19 #[.slice A b.length ca] w (DgS (sha b) w) := by
  obtain ⟨g0, hg0⟩ : ∃ g, w.heap.size = g := ⟨_, rfl⟩
  have HW0 := Lib.hid hg0
  obtain ⟨n, hn⟩ : ∃ n, b.length = n := ⟨_, rfl⟩
  have HN := Lib.hid hn
  have HR := Lib.hid hr
  have HGL := Lib.hid (fun W (h : Ext w W) => hgl.ext h)
  rw [hn] at hc hl ⊢
  obtain ⟨k, hk⟩ : ∃ k, 64 * (n / 64) = k := ⟨_, rfl⟩
  have hkn : k ≤ n := by omega
  have em : (n : Int).tmod 64 = ((n % 64 : Nat) : Int) := by rw [Int.tmod_eq_emod_of_nonneg (by omega)]; omega
  have em2 : (n : Int) - (n : Int) % 64 = (k : Int) := by omega
  have ew : wrap64 ((n : Int) - (n : Int) % 64) = (k : Int) := by unfold wrap64; omega
  have HK := Lib.hid hk
  have hT := (HGL.out w (Ext.refl w)).1
  obtain ⟨V0, hV0⟩ : ∃ V, dt 8 (co HH) = V := ⟨_, rfl⟩
  have HG0 := Lib.hid (show ∀ W, Ext w W → ∃ T, W.heap[0]? = some (.cells V0 T (0, 0)) from fun W h => by rw [← hV0]; exact (HGL.out W h).1)
  have HI0 := Lib.hid (show (Tryd.prog.info? 73).map (·.size) = some V0.size from by rw [← hV0]; exact info_state _)
  have hz := zero_digest.1
  have HZ32 := Lib.hid (fun (_ : Unit) => show (bt 32 fun _ => 0).size = 32 from bt_size _ _)
  obtain ⟨Z, hZ⟩ : ∃ Z, (bt 32 fun _ => 0) = Z := ⟨_, rfl⟩
  -- the slices, the two states
  have ht := run_to_u8 A n ca k (by omega)
  obtain ⟨X, hx, hxr, _⟩ := run_rest_u8 A n ca k hkn hc
  have HTK := Lib.hid (show (b.take k).length = k from by rw [List.length_take, HN.out]; omega)
  have HDK := Lib.hid (show (b.drop k).length = n - k from by rw [List.length_drop, HN.out])
  have HXR := Lib.hid (fun W (h : Ext w W) => show Rd W X (b.drop k) from by
    have h2 := hxr W b (HR.out.ext h) HN.out
    have e : tab (n - k) (fun j => co b (k + j)) = b.drop k := dr_ext (by rw [tab_len, HDK.out]) (fun i hi => by
      rw [tab_len] at hi
      rw [co_tab, if_pos hi]
      unfold co
      rw [List.getElem?_drop])
    rwa [e] at h2)
  obtain ⟨S1, hS1⟩ : ∃ S, hsh HH KK (b.take k) (k / 64) = S := ⟨_, rfl⟩
  obtain ⟨EB, hEB⟩ : ∃ l, endb (b.drop k) n = l := ⟨_, rfl⟩
  obtain ⟨N2, hN2⟩ : ∃ N, EB.length = N := ⟨_, rfl⟩
  obtain ⟨S2, hS2⟩ : ∃ S, hsh S1 KK EB (N2 / 64) = S := ⟨_, rfl⟩
  have hS1l : S1.length = 8 := by rw [← hS1]; exact hsh_len _ _ _ HH_len _
  have hS1w : W32 S1 := by rw [← hS1]; exact hsh_w32 _ _ _ HH_w32 _
  have HT1 := Lib.hid (fun W (h : Ext w W) => show Calls Tryd.prog 38 #[.agg V0, .slice A k ca] W (Tells (.agg (dt 8 (co S1))) W) from by
    have h1 := sh_through HH (b.take k) A ca W (HGL.out W h) HH_w32 HH_len ((HR.out.ext h).take k) (by rw [HTK.out]; omega) (by rw [HTK.out, ← HK.out]; omega) (by rw [HTK.out]; omega)
    rw [HTK.out, hV0, hS1] at h1
    exact h1)
  have HEN := Lib.hid (fun W (h : Ext w W) => show Calls Tryd.prog 39 #[.slice X (n - k) (ca - k), .int .i64 (n : Int)] W (Gives EB W) from by
    have h1 := sh_ending (b.drop k) X (ca - k) n W (HXR.out W h) (by rw [HDK.out, ← HK.out]; omega) (by omega)
    rw [HDK.out, hEB] at h1
    exact h1)
  have HE2 := Lib.hid (show N2 % 64 = 0 ∧ N2 ≤ 1048576 from by
    have hp : padz n = (119 - n % 64) % 64 := rfl
    rw [← hN2, ← hEB, endb_len, HDK.out, hp, ← HK.out]
    omega)
  have HT2 := Lib.hid (fun W (h : Ext w W) B c (hB : Rd W B EB) (hcB : N2 ≤ c) => show Calls Tryd.prog 38 #[.agg (dt 8 (co S1)), .slice B N2 c] W (Tells (.agg (dt 8 (co S2))) W) from by
    have h1 := sh_through S1 EB B c W (HGL.out W h) hS1w hS1l hB (by rw [hN2]; exact hcB) (by rw [hN2]; exact HE2.out.1) (by rw [hN2]; exact HE2.out.2)
    rw [hN2, hS2] at h1
    exact h1)
  have HSE := Lib.hid (fun (_ : Unit) => show hsh HH KK (padded b) ((padded b).length / 64) = S2 from by
    have e := endb_padded b k
    rw [HN.out, hEB] at e
    rw [← e, List.length_append, HTK.out, hN2, ← hS2, ← hS1, hsh_right (m := k / 64) (by rw [HTK.out, ← HK.out]; omega)]
    congr 1
    have := HK.out
    omega)
  have HNB := Lib.hid hN2
  have HS2L := Lib.hid (show S2.length = 8 from by rw [← hS2]; exact hsh_len _ _ _ hS1l _)
  have HS2W := Lib.hid (show W32 S2 from by rw [← hS2]; exact hsh_w32 _ _ _ hS1w _)
  have HIS := Lib.hid (fun S => info_state (co S))
  have HZL := Lib.hid (show dt 8 (fun _ => 0) = #[.int .u32 0, .int .u32 0, .int .u32 0, .int .u32 0, .int .u32 0, .int .u32 0, .int .u32 0, .int .u32 0] from rfl)
  have HGLD := Lib.hid (fun W (h : Ext w W) => show (Instr.loadAt 73 (.pointer (some ⟨0, 0, none⟩))).run Tryd.prog W = .ok (.agg V0) W from by
    obtain ⟨T, hT⟩ := HG0.out W h
    simp only [Instr.loadAt, Instr.sureAddr, Sem.run_bind, Sem.run_pure, Result.andThen]
    exact run_loadVar_row W 0 T 73 V0 (0, 0) _ hT Tryd.underlying73 rfl HI0.out)
  clear hEB hS1w hS1l hS1 hS2 hN2 hV0 hT hgl hr hn hxr hk
  rw [hZ] at hz HZ32
  go_enter Tryd.func19, Tryd.ntmps19
  go_wp2_with fail
  have HX1 := Lib.hid ((Ext.refl w).alloc (.cells Z 39))
  have HR0 := Lib.hid (show (w.alloc (.cells Z 39)).heap[g0]? = some (.cells Z 39 (0, 0)) from by rw [← hg0]; exact heap_alloc_new w _)
  have HS0 := Lib.hid (show g0 < (w.alloc (.cells Z 39)).heap.size from by rw [← hg0]; simp)
  generalize w.alloc (.cells Z 39) = w1 at HX1 HR0 HS0 ⊢
  obtain ⟨V1, hV1⟩ : ∃ V, dt 8 (co S1) = V := ⟨_, rfl⟩
  have HI1 := Lib.hid (info_state (co S1))
  have HSR1 := Lib.hid (show (dt 8 fun _ => 0).size = (dt 8 (co S1)).size from by rw [dt_size, dt_size])
  have HOR1 := Lib.hid (dt_one 8 (co S1))
  obtain ⟨V2, hV2⟩ : ∃ V, dt 8 (co S2) = V := ⟨_, rfl⟩
  have HI2 := Lib.hid (info_state (co S2))
  have HSR2 := Lib.hid (show (dt 8 (co S1)).size = (dt 8 (co S2)).size from by rw [dt_size, dt_size])
  have HOR2 := Lib.hid (dt_one 8 (co S2))
  have HVE2 := Lib.hid (fun (_ : Unit) => hV2)
  rw [hV1] at HT1 HT2 HI1 HSR1 HOR1 HSR2
  rw [hV2] at HT2 HI2 HSR2 HOR2
  clear hV1 hV2
  go_wp2
  refine wp_region_plan (AfterT w1) [0, 1, 2, 3, 4, 5] (.yes 0 (.yes 1 (.yes 2 (.yes 3 (.two 4 (.one 5 (.one 6 .done)) 5 (.one 4 (.one 6 .done))))))) (by kernel_rfl) (fun c a a' w e h => ⟨e ▸ h.1, h.2⟩) (by kernel_rfl) ((Ext.refl w1).drew) ?_
  refine plan_load rfl 73 (.global 0) rfl (.agg V0) (by first | rfl | go_simp) (fun W hW => HGLD.out W (HX1.out.trans hW)) ?_
  refine plan_yes rfl (fun K hK => ?_); go_simp; refine ⟨_, fun _ _ => rfl, hK _ ?_⟩; clear hK K
  refine plan_yes rfl (fun K hK => ?_); go_simp; refine ⟨_, fun _ _ => rfl, hK _ ?_⟩; clear hK K
  refine plan_yes rfl (fun K hK => ?_); go_simp; refine ⟨_, fun W _ => rfl, hK _ ?_⟩; clear hK K
  refine plan_two rfl rfl (fun K hK => ?_) (fun K hK => ?_)
  · go_wp2_with fail
    refine (HT1.out _ (HX1.out.drew)).mono ?_
    rintro e v4 ⟨rfl, hx4⟩
    have HX4 := Lib.hid (show AfterT w1 v4 from Ext.trans ((Ext.refl w1).drew) hx4)
    clear hx4
    go_wp2
    refine ⟨fun _ => HX4.out, ?_⟩
    refine plan_one rfl (fun K hK => ?_)
    go_wp2
    have HX6 := Lib.hid (show AfterT w1 (World.alloc v4 (.cells (dt 8 fun _ => 0) 73)) from Ext.alloc HX4.out _)
    have HB6 := Lib.hid (WBlk.new (T := 73) (n := 8) v4 (fun _ => 0))
    have HGX := Lib.hid (show w1.heap.size ≤ (v4).heap.size from Ext.size HX4.out)
    rw [HZL.out] at HX6 HB6
    refine ⟨fun _ => HX6.out, ?_⟩
    generalize hgx : (v4).heap.size = gx at HB6 HGX ⊢
    generalize World.alloc v4 _ = v6 at HX6 HB6 ⊢
    clear hgx
    refine plan_one rfl (fun K hK => ?_)
    have HG7 := Lib.hid (setRow_heap _ gx _ V1 _ _ HB6.out)
    have HX7 := Lib.hid (Ext.setRow HX6.out HGX.out V1)
    have hb0 := HB6.out
    unfold WBlk at hb0
    have HB0 := Lib.hid hb0
    clear hb0
    go_wp2_with (with_reducible refine wpList_store_all rfl 73 (.tmp 4) (.tmp 17) rfl gx (dt 8 fun _ => 0) V1 rfl rfl HB0.out HI1.out HSR1.out HOR1.out ?_)
    refine ⟨fun h => absurd h (by decide), ?_⟩
    unfold wpPlan
    obtain ⟨wz, hwz⟩ : ∃ q, World.setRow v6 gx V1 = q := ⟨_, rfl⟩
    rw [hwz] at HG7 HX7 ⊢
    clear hwz
    have HLS := Lib.hid (fun W (h : AfterT wz W) => run_load_all W gx 73 V1 8 72 Tryd.underlying73 (WBlk.ext' HG7.out h) HI1.out)
    have HXZ := Lib.hid (HX1.out.trans HX7.out)
    go_wp2
    refine wp_region_plan (AfterT wz) [0, 1, 2, 3, 4, 5, 6] (.yes 0 (.yes 1 (.yes 2 (.yes 3 (.yes 4 (.yes 5 (.one 6 (.one 7 (.one 8 .done))))))))) (by kernel_rfl) (fun c a a' w e h => ⟨e ▸ h.1, h.2⟩) (by kernel_rfl) ((Ext.refl wz).drew) ?_
    refine plan_load rfl 73 (.tmp 4) rfl (.agg V1) (by first | rfl | go_simp) (fun W hW => HLS.out W hW) ?_
    refine plan_yes rfl (fun K hK => ?_); go_simp; refine ⟨_, fun _ _ => rfl, hK _ ?_⟩; clear hK K
    refine plan_yes rfl (fun K hK => ?_); go_simp; refine ⟨_, fun _ _ => rfl, hK _ ?_⟩; clear hK K
    refine plan_yes rfl (fun K hK => ?_); go_simp; refine ⟨_, fun _ _ => rfl, hK _ ?_⟩; clear hK K
    refine plan_yes rfl (fun K hK => ?_); go_simp; refine ⟨_, fun _ _ => rfl, hK _ ?_⟩; clear hK K
    refine plan_yes rfl (fun K hK => ?_); go_simp; refine ⟨_, fun _ _ => rfl, hK _ ?_⟩; clear hK K
    refine plan_one rfl (fun K hK => ?_)
    go_wp2_with fail
    refine (HEN.out _ (HXZ.out.drew)).mono ?_
    rintro e v7 ⟨BE, cE, rfl, hcE, hrE, hx7⟩
    rw [HNB.out] at hcE ⊢
    have HX8 := Lib.hid (show AfterT wz v7 from Ext.trans ((Ext.refl wz).drew) hx7)
    have HRE := Lib.hid hrE
    clear hx7 hrE
    go_wp2
    refine ⟨fun _ => HX8.out, ?_⟩
    refine plan_one rfl (fun K hK => ?_)
    go_wp2_with fail
    refine (HT2.out _ (HXZ.out.trans HX8.out) BE cE HRE.out hcE).mono ?_
    rintro e v8 ⟨rfl, hx8⟩
    have HX9 := Lib.hid (show AfterT wz v8 from Ext.trans HX8.out hx8)
    clear hx8
    go_wp2
    refine ⟨fun h => absurd h (by decide), ?_⟩
    refine plan_one rfl (fun K hK => ?_)
    have HB8 := Lib.hid (WBlk.ext' HG7.out HX9.out)
    have HGA := Lib.hid (setRow_heap _ gx _ V2 _ _ HB8.out)
    have HXA := Lib.hid (Ext.setRow (HX7.out.trans HX9.out) HGX.out V2)
    go_wp2_with (with_reducible refine wpList_store_all rfl 73 (.tmp 4) (.tmp 25) rfl gx V1 V2 rfl rfl HB8.out HI2.out HSR2.out HOR2.out ?_)
    refine ⟨fun h => absurd h (by decide), ?_⟩
    unfold wpPlan
    obtain ⟨wy, hwy⟩ : ∃ q, World.setRow v8 gx V2 = q := ⟨_, rfl⟩
    rw [hwy] at HGA HXA ⊢
    clear hwy
    have HRY := Lib.hid (WBlk.ext' HR0.out HXA.out)
    have HSY := Lib.hid (show gx < wy.heap.size from (Array.getElem?_eq_some_iff.1 HGA.out).1)
    have HXY := Lib.hid (HX1.out.trans HXA.out)
    have HGY := Lib.hid (show WBlk 73 8 wy gx (co S2) from by unfold WBlk; rw [HVE2.out ()]; exact HGA.out)
    have hbs : Z.size = 32 := HZ32.out ()
    have hbo : Z.all (·.oneCell') = true := by rw [← hZ]; exact bt_one _ _
    have g1 := heap_alloc_new wy (.cells Z 39)
    have hst := store32 (wy.alloc (.cells Z 39)) wy.heap.size (fun _ => 0) (fun _ => 0) (by unfold DBlk; rw [hZ]; exact g1)
    rw [hZ, setRow_same _ _ _ _ g1] at hst
    have HG1 := Lib.hid (show DBlk (wy.alloc (.cells Z 39)) wy.heap.size (fun _ => 0) from by unfold DBlk; rw [hZ]; exact g1)
    have HXD := Lib.hid ((Ext.refl wy).alloc (.cells Z 39))
    clear g1
    go_wp2_with fail
    clear hst hbs hbo
    obtain ⟨db, hdb⟩ : ∃ db, wy.heap.size = db := ⟨_, rfl⟩
    have HDB := Lib.hid hdb
    rw [hdb] at HG1 HSY ⊢
    clear hdb
    have HRW := Lib.hid (WBlk.ext' HRY.out HXD.out)
    have HGW := Lib.hid (WBlk.ext HGY.out HXD.out)
    have HXW := Lib.hid (HXY.out.trans HXD.out)
    have HG0D := Lib.hid (show g0 < db from by have := (Array.getElem?_eq_some_iff.1 HRY.out).1; have := HDB.out; omega)
    generalize wy.alloc (.cells Z 39) = W at HG1 HXD HRW HGW HXW ⊢
    go_loopg [27] 32 (fun gk s27 wx => ∃ i : Nat, i + gk = 32 ∧ s27 = .int .i64 (i : Int) ∧ DBlk wx db (fun j => if j < i then digB S2 j else 0) ∧ W.grownBy wx (some db))
    case atStart => exact ⟨0, by omega, rfl, HG1.out.congr (fun i _ => by rw [if_neg (by omega)]), ⟨rfl, rfl, rfl, Nat.le_refl _, fun _ _ _ => rfl⟩⟩
    case round =>
      obtain ⟨i, hig, rfl, hb, hg2⟩ := hrel
      have HB2 := Lib.hid hb
      have HG2 := Lib.hid hg2
      have HIG := Lib.hid hig
      clear hb hg2 hig
      cases gk with
      | zero =>
        have hi32 : 32 ≤ i := by have := HIG.out; omega
        have hi : ¬ ((i : Int) < 32) := by omega
        have d1 : decide ((i : Int) < 32) = false := decide_eq_false hi
        have hbl := HB2.out.congr (f' := digB S2) (fun j hj => by rw [if_pos (by omega)])
        have hrw := (HG2.out.block g0 (by have := (Array.getElem?_eq_some_iff.1 HRW.out).1; exact this) (fun e => by injection e with e; have := HG0D.out; omega)).trans HRW.out
        have HBL := Lib.hid hbl
        have HRR := Lib.hid hrw
        have HG3 := Lib.hid (setRow_heap _ _ _ (bt 32 (digB S2)) _ _ hrw)
        have HX3 := Lib.hid ((HXW.out.more HG2.out (fun q e => by injection e with e; rw [← e, HW0.out]; exact Nat.le_of_lt HG0D.out)).setRow (g := g0) (by rw [HW0.out]; exact Nat.le_refl _) (bt 32 (digB S2)))
        have HIN := Lib.hid (info32 (digB S2))
        have HSZ := Lib.hid (show Z.size = (bt 32 (digB S2)).size by rw [bt_size, (HZ32.out ())])
        have HON := Lib.hid (fun (_ : Unit) => (bt_one 32 (digB S2)))
        have HV := Lib.hid (show Dgc (bt 32 (digB S2)) (sha b) from ⟨bt_size _ _, fun j hj => by
          rw [bt_at 32 _ j hj]
          unfold sha shaK
          rw [co_map _ _ _ (by rw [List.length_range]; exact hj), show co (List.range 32) j = j from by unfold co; rw [List.getElem?_range hj]; rfl, HSE.out ()]⟩)
        clear hi hi32 hbl hrw
        unfold DBlk at HBL
        generalize bt 32 (digB S2) = V at HBL HG3 HX3 HIN HSZ HON HV
        go_wp2_with (first | (with_reducible refine wpList_load_row rfl 39 (.tmp 5) rfl db rfl 39 V (0, 0) _ HBL.out Tryd.underlying39 rfl HIN.out ?_) | (with_reducible refine wpList_store_all rfl 39 (.tmp 2) (.tmp 43) rfl g0 Z V rfl rfl HRR.out HIN.out HSZ.out (HON.out ()) ?_))
        exact ⟨rfl, .agg V, results_cell_row Tryd.results19 _ _ g0 39 V (0, 0) _ rfl HG3.out Tryd.underlying39 rfl HIN.out, V, rfl, HV.out, HX3.out⟩
      | succ gk =>
        have hi : i < 32 := by have := HIG.out; omega
        have hiI : (i : Int) < 32 := by omega
        obtain ⟨q, hq⟩ : ∃ q, i / 4 = q := ⟨_, rfl⟩
        obtain ⟨r, hr⟩ : ∃ r, i % 4 = r := ⟨_, rfl⟩
        obtain ⟨v, hv⟩ : ∃ v, 24 - 8 * r = v := ⟨_, rfl⟩
        have hq8 : q < 8 := by omega
        have hcq := (WBlk.grown HGW.out HG2.out (by have := HSY.out; omega)).cell q hq8
        obtain ⟨x, hx⟩ : ∃ x, co S2 q = x := ⟨_, rfl⟩
        rw [hx] at hcq
        have hx32 : x < 4294967296 := by rw [← hx]; exact HS2W.out.at q
        have e1 : (i : Int) / 4 = (q : Int) := by omega
        have e1' : (i : Int).tdiv 4 = (q : Int) := by rw [Int.tdiv_eq_ediv_of_nonneg (by omega)]; omega
        have e2 : (i : Int) % 4 = (r : Int) := by omega
        have e2' : (i : Int).tmod 4 = (r : Int) := by rw [Int.tmod_eq_emod_of_nonneg (by omega)]; omega
        have e3 : 24 - 8 * (r : Int) = (v : Int) := by omega
        have e4 : wrap64 (8 * (r : Int)) = 8 * (r : Int) := by unfold wrap64; omega
        have e5 : wrap64 (24 - 8 * (r : Int)) = (v : Int) := by unfold wrap64; omega
        have hr4 : r < 4 := by omega
        have hqI : (q : Int) < 8 := by omega
        have hv24 : v ≤ 24 := by omega
        have hfz := HB2.out.frozen i
        have hck := HB2.out.cell i hi
        have HQ := Lib.hid (fun (_ : Unit) => (show digB S2 i = x / 2 ^ v % 256 from by unfold digB; rw [hq, hr, hv, hx]))
        clear hq hr hv hx
        go_wp2_with fail
        go_roundg gk
        case measure => omega
        case rel =>
          have ev : (x : Int) / 2 ^ v % 256 = ((digB S2 i : Nat) : Int) := by rw [(HQ.out ())]; simp
          refine ⟨i + 1, by have := HIG.out; omega, by go_num, ?_, HG2.out.trans (grown_set _ _ _ _)⟩
          rw [ev]
          exact (HB2.out.store i (digB S2 i)).congr (fun j _ => by
            unfold upd
            by_cases h : j = i
            · subst h; rw [if_pos rfl, if_pos (by omega)]
            · rw [if_neg h]
              show (if j < i then digB S2 j else 0) = if j < i + 1 then digB S2 j else 0
              by_cases h2 : j < i
              · rw [if_pos h2, if_pos (by omega)]
              · rw [if_neg h2, if_neg (by omega)])
  · go_wp2
    have HX6 := Lib.hid (show AfterT w1 (World.drew (World.alloc w1 (.cells (dt 8 fun _ => 0) 73))) from (Ext.alloc (Ext.refl w1) _).drew)
    have HB6 := Lib.hid (show WBlk 73 8 (World.drew (World.alloc w1 (.cells (dt 8 fun _ => 0) 73))) w1.heap.size (fun _ => 0) from WBlk.new (T := 73) (n := 8) w1 (fun _ => 0))
    rw [HZL.out] at HX6 HB6
    refine ⟨fun _ => HX6.out, ?_⟩
    generalize hgx : w1.heap.size = gx at HB6 ⊢
    have HGX := Lib.hid (Nat.le_of_eq hgx)
    generalize (World.alloc w1 _).drew = v6 at HX6 HB6 ⊢
    clear hgx
    refine plan_one rfl (fun K hK => ?_)
    go_wp2_with fail
    refine (HT1.out _ (HX1.out.trans HX6.out)).mono ?_
    rintro e v4 ⟨rfl, hx4⟩
    have HX4 := Lib.hid (show AfterT w1 v4 from Ext.trans HX6.out hx4)
    have HB4 := Lib.hid (WBlk.ext HB6.out hx4)
    clear hx4
    go_wp2
    refine ⟨fun _ => HX4.out, ?_⟩
    refine plan_one rfl (fun K hK => ?_)
    have HG7 := Lib.hid (setRow_heap _ gx _ V1 _ _ HB4.out)
    have HX7 := Lib.hid (Ext.setRow HX4.out HGX.out V1)
    have hb0 := HB4.out
    unfold WBlk at hb0
    have HB0 := Lib.hid hb0
    clear hb0
    go_wp2_with (with_reducible refine wpList_store_all rfl 73 (.tmp 4) (.tmp 17) rfl gx (dt 8 fun _ => 0) V1 rfl rfl HB0.out HI1.out HSR1.out HOR1.out ?_)
    refine ⟨fun h => absurd h (by decide), ?_⟩
    unfold wpPlan
    obtain ⟨wz, hwz⟩ : ∃ q, World.setRow v4 gx V1 = q := ⟨_, rfl⟩
    rw [hwz] at HG7 HX7 ⊢
    clear hwz
    have HLS := Lib.hid (fun W (h : AfterT wz W) => run_load_all W gx 73 V1 8 72 Tryd.underlying73 (WBlk.ext' HG7.out h) HI1.out)
    have HXZ := Lib.hid (HX1.out.trans HX7.out)
    go_wp2
    refine wp_region_plan (AfterT wz) [0, 1, 2, 3, 4, 5, 6] (.yes 0 (.yes 1 (.yes 2 (.yes 3 (.yes 4 (.yes 5 (.one 6 (.one 7 (.one 8 .done))))))))) (by kernel_rfl) (fun c a a' w e h => ⟨e ▸ h.1, h.2⟩) (by kernel_rfl) ((Ext.refl wz).drew) ?_
    refine plan_load rfl 73 (.tmp 4) rfl (.agg V1) (by first | rfl | go_simp) (fun W hW => HLS.out W hW) ?_
    refine plan_yes rfl (fun K hK => ?_); go_simp; refine ⟨_, fun _ _ => rfl, hK _ ?_⟩; clear hK K
    refine plan_yes rfl (fun K hK => ?_); go_simp; refine ⟨_, fun _ _ => rfl, hK _ ?_⟩; clear hK K
    refine plan_yes rfl (fun K hK => ?_); go_simp; refine ⟨_, fun _ _ => rfl, hK _ ?_⟩; clear hK K
    refine plan_yes rfl (fun K hK => ?_); go_simp; refine ⟨_, fun _ _ => rfl, hK _ ?_⟩; clear hK K
    refine plan_yes rfl (fun K hK => ?_); go_simp; refine ⟨_, fun _ _ => rfl, hK _ ?_⟩; clear hK K
    refine plan_one rfl (fun K hK => ?_)
    go_wp2_with fail
    refine (HEN.out _ (HXZ.out.drew)).mono ?_
    rintro e v7 ⟨BE, cE, rfl, hcE, hrE, hx7⟩
    rw [HNB.out] at hcE ⊢
    have HX8 := Lib.hid (show AfterT wz v7 from Ext.trans ((Ext.refl wz).drew) hx7)
    have HRE := Lib.hid hrE
    clear hx7 hrE
    go_wp2
    refine ⟨fun _ => HX8.out, ?_⟩
    refine plan_one rfl (fun K hK => ?_)
    go_wp2_with fail
    refine (HT2.out _ (HXZ.out.trans HX8.out) BE cE HRE.out hcE).mono ?_
    rintro e v8 ⟨rfl, hx8⟩
    have HX9 := Lib.hid (show AfterT wz v8 from Ext.trans HX8.out hx8)
    clear hx8
    go_wp2
    refine ⟨fun h => absurd h (by decide), ?_⟩
    refine plan_one rfl (fun K hK => ?_)
    have HB8 := Lib.hid (WBlk.ext' HG7.out HX9.out)
    have HGA := Lib.hid (setRow_heap _ gx _ V2 _ _ HB8.out)
    have HXA := Lib.hid (Ext.setRow (HX7.out.trans HX9.out) HGX.out V2)
    go_wp2_with (with_reducible refine wpList_store_all rfl 73 (.tmp 4) (.tmp 25) rfl gx V1 V2 rfl rfl HB8.out HI2.out HSR2.out HOR2.out ?_)
    refine ⟨fun h => absurd h (by decide), ?_⟩
    unfold wpPlan
    obtain ⟨wy, hwy⟩ : ∃ q, World.setRow v8 gx V2 = q := ⟨_, rfl⟩
    rw [hwy] at HGA HXA ⊢
    clear hwy
    have HRY := Lib.hid (WBlk.ext' HR0.out HXA.out)
    have HSY := Lib.hid (show gx < wy.heap.size from (Array.getElem?_eq_some_iff.1 HGA.out).1)
    have HXY := Lib.hid (HX1.out.trans HXA.out)
    have HGY := Lib.hid (show WBlk 73 8 wy gx (co S2) from by unfold WBlk; rw [HVE2.out ()]; exact HGA.out)
    have hbs : Z.size = 32 := HZ32.out ()
    have hbo : Z.all (·.oneCell') = true := by rw [← hZ]; exact bt_one _ _
    have g1 := heap_alloc_new wy (.cells Z 39)
    have hst := store32 (wy.alloc (.cells Z 39)) wy.heap.size (fun _ => 0) (fun _ => 0) (by unfold DBlk; rw [hZ]; exact g1)
    rw [hZ, setRow_same _ _ _ _ g1] at hst
    have HG1 := Lib.hid (show DBlk (wy.alloc (.cells Z 39)) wy.heap.size (fun _ => 0) from by unfold DBlk; rw [hZ]; exact g1)
    have HXD := Lib.hid ((Ext.refl wy).alloc (.cells Z 39))
    clear g1
    go_wp2_with fail
    clear hst hbs hbo
    obtain ⟨db, hdb⟩ : ∃ db, wy.heap.size = db := ⟨_, rfl⟩
    have HDB := Lib.hid hdb
    rw [hdb] at HG1 HSY ⊢
    clear hdb
    have HRW := Lib.hid (WBlk.ext' HRY.out HXD.out)
    have HGW := Lib.hid (WBlk.ext HGY.out HXD.out)
    have HXW := Lib.hid (HXY.out.trans HXD.out)
    have HG0D := Lib.hid (show g0 < db from by have := (Array.getElem?_eq_some_iff.1 HRY.out).1; have := HDB.out; omega)
    generalize wy.alloc (.cells Z 39) = W at HG1 HXD HRW HGW HXW ⊢
    go_loopg [27] 32 (fun gk s27 wx => ∃ i : Nat, i + gk = 32 ∧ s27 = .int .i64 (i : Int) ∧ DBlk wx db (fun j => if j < i then digB S2 j else 0) ∧ W.grownBy wx (some db))
    case atStart => exact ⟨0, by omega, rfl, HG1.out.congr (fun i _ => by rw [if_neg (by omega)]), ⟨rfl, rfl, rfl, Nat.le_refl _, fun _ _ _ => rfl⟩⟩
    case round =>
      obtain ⟨i, hig, rfl, hb, hg2⟩ := hrel
      have HB2 := Lib.hid hb
      have HG2 := Lib.hid hg2
      have HIG := Lib.hid hig
      clear hb hg2 hig
      cases gk with
      | zero =>
        have hi32 : 32 ≤ i := by have := HIG.out; omega
        have hi : ¬ ((i : Int) < 32) := by omega
        have d1 : decide ((i : Int) < 32) = false := decide_eq_false hi
        have hbl := HB2.out.congr (f' := digB S2) (fun j hj => by rw [if_pos (by omega)])
        have hrw := (HG2.out.block g0 (by have := (Array.getElem?_eq_some_iff.1 HRW.out).1; exact this) (fun e => by injection e with e; have := HG0D.out; omega)).trans HRW.out
        have HBL := Lib.hid hbl
        have HRR := Lib.hid hrw
        have HG3 := Lib.hid (setRow_heap _ _ _ (bt 32 (digB S2)) _ _ hrw)
        have HX3 := Lib.hid ((HXW.out.more HG2.out (fun q e => by injection e with e; rw [← e, HW0.out]; exact Nat.le_of_lt HG0D.out)).setRow (g := g0) (by rw [HW0.out]; exact Nat.le_refl _) (bt 32 (digB S2)))
        have HIN := Lib.hid (info32 (digB S2))
        have HSZ := Lib.hid (show Z.size = (bt 32 (digB S2)).size by rw [bt_size, (HZ32.out ())])
        have HON := Lib.hid (fun (_ : Unit) => (bt_one 32 (digB S2)))
        have HV := Lib.hid (show Dgc (bt 32 (digB S2)) (sha b) from ⟨bt_size _ _, fun j hj => by
          rw [bt_at 32 _ j hj]
          unfold sha shaK
          rw [co_map _ _ _ (by rw [List.length_range]; exact hj), show co (List.range 32) j = j from by unfold co; rw [List.getElem?_range hj]; rfl, HSE.out ()]⟩)
        clear hi hi32 hbl hrw
        unfold DBlk at HBL
        generalize bt 32 (digB S2) = V at HBL HG3 HX3 HIN HSZ HON HV
        go_wp2_with (first | (with_reducible refine wpList_load_row rfl 39 (.tmp 5) rfl db rfl 39 V (0, 0) _ HBL.out Tryd.underlying39 rfl HIN.out ?_) | (with_reducible refine wpList_store_all rfl 39 (.tmp 2) (.tmp 43) rfl g0 Z V rfl rfl HRR.out HIN.out HSZ.out (HON.out ()) ?_))
        exact ⟨rfl, .agg V, results_cell_row Tryd.results19 _ _ g0 39 V (0, 0) _ rfl HG3.out Tryd.underlying39 rfl HIN.out, V, rfl, HV.out, HX3.out⟩
      | succ gk =>
        have hi : i < 32 := by have := HIG.out; omega
        have hiI : (i : Int) < 32 := by omega
        obtain ⟨q, hq⟩ : ∃ q, i / 4 = q := ⟨_, rfl⟩
        obtain ⟨r, hr⟩ : ∃ r, i % 4 = r := ⟨_, rfl⟩
        obtain ⟨v, hv⟩ : ∃ v, 24 - 8 * r = v := ⟨_, rfl⟩
        have hq8 : q < 8 := by omega
        have hcq := (WBlk.grown HGW.out HG2.out (by have := HSY.out; omega)).cell q hq8
        obtain ⟨x, hx⟩ : ∃ x, co S2 q = x := ⟨_, rfl⟩
        rw [hx] at hcq
        have hx32 : x < 4294967296 := by rw [← hx]; exact HS2W.out.at q
        have e1 : (i : Int) / 4 = (q : Int) := by omega
        have e1' : (i : Int).tdiv 4 = (q : Int) := by rw [Int.tdiv_eq_ediv_of_nonneg (by omega)]; omega
        have e2 : (i : Int) % 4 = (r : Int) := by omega
        have e2' : (i : Int).tmod 4 = (r : Int) := by rw [Int.tmod_eq_emod_of_nonneg (by omega)]; omega
        have e3 : 24 - 8 * (r : Int) = (v : Int) := by omega
        have e4 : wrap64 (8 * (r : Int)) = 8 * (r : Int) := by unfold wrap64; omega
        have e5 : wrap64 (24 - 8 * (r : Int)) = (v : Int) := by unfold wrap64; omega
        have hr4 : r < 4 := by omega
        have hqI : (q : Int) < 8 := by omega
        have hv24 : v ≤ 24 := by omega
        have hfz := HB2.out.frozen i
        have hck := HB2.out.cell i hi
        have HQ := Lib.hid (fun (_ : Unit) => (show digB S2 i = x / 2 ^ v % 256 from by unfold digB; rw [hq, hr, hv, hx]))
        clear hq hr hv hx
        go_wp2_with fail
        go_roundg gk
        case measure => omega
        case rel =>
          have ev : (x : Int) / 2 ^ v % 256 = ((digB S2 i : Nat) : Int) := by rw [(HQ.out ())]; simp
          refine ⟨i + 1, by have := HIG.out; omega, by go_num, ?_, HG2.out.trans (grown_set _ _ _ _)⟩
          rw [ev]
          exact (HB2.out.store i (digB S2 i)).congr (fun j _ => by
            unfold upd
            by_cases h : j = i
            · subst h; rw [if_pos rfl, if_pos (by omega)]
            · rw [if_neg h]
              show (if j < i then digB S2 j else 0) = if j < i + 1 then digB S2 j else 0
              by_cases h2 : j < i
              · rw [if_pos h2, if_pos (by omega)]
              · rw [if_neg h2, if_neg (by omega)])
end Go.Proofs.YtjifionpblpfoaaDoor

/-
  What make([]byte, 0, n) does. Conditions: no more than 2^40 bytes.
-/
namespace Go.Proofs.YtjifionpblpfoaaDoor
open Go.RowKit
open Pol (co Sm)

set_option maxRecDepth 100000 in
/-- make([]byte, 0, n). -/
theorem run_make_cap (n : Nat) (N : Int) (hN : N = (n : Int)) (hn : n ≤ 1099511627776) (w : World) :
    (Instr.makeSlice 23 (.int .i64 0) (.int .i64 N)).run Tryd.prog w = .ok (.slice (some ⟨w.heap.size, 0, none⟩) 0 n) (w.alloc (.cells (bt n fun _ => 0) 5)) := by
  subst hN
  obtain ⟨i0, hi, hz0, hz1, hz2⟩ := info_parts u8_info
  have h := run_make (P := Tryd.prog) w 23 5 i0 (.int .u8 0) Tryd.underlying23 hi hz0 .i64 .i64 0 n (by omega) (by omega) (by rw [hz2]; omega) (by omega)
  simp only [Int.toNat_natCast, hz1, Nat.mul_one] at h
  rw [h, ← bt_made]
  rfl
theorem mine_made (w : World) (n : Nat) (hn : n ≤ 1099511627776) : Mine (w.alloc (.cells (bt n fun _ => 0) 5)) w.heap.size (.slice (some ⟨w.heap.size, 0, none⟩) 0 n) [] :=
  World.ownsRow_made w (bt n fun _ => 0) n (Nat.le_refl _) (by unfold maxLen; omega) (by rw [bt_size, Nat.mul_one])
end Go.Proofs.YtjifionpblpfoaaDoor

/-
  Digits of a text, one by one. Conditions: none; no function is named here.
-/
namespace Go.Proofs.YtjifionpblpfoaaDoor
open Go.RowKit
open Pol (co Sm)

theorem hxb_size (l : List Nat) : (hxb l).size = 2 * l.length := by
  show (hxs l).toArray.size = _
  rw [List.size_toArray, hxs_len]
theorem hxs_at : ∀ (l : List Nat) (i : Nat), i < l.length → (hxs l)[2 * i]? = some (hxd (co l i / 16)) ∧ (hxs l)[2 * i + 1]? = some (hxd (co l i % 16))
  | x :: l, 0, _ => ⟨rfl, rfl⟩
  | x :: l, i + 1, h => by
    have ih := hxs_at l i (by simpa using h)
    rw [Pol.co_succ]
    exact ⟨ih.1, ih.2⟩
  | [], _, h => by simp at h

theorem idxL (L : List UInt8) (k : IntKind) (i : Nat) (v : UInt8) (hv : L[i]? = some v) (W : World) : (Instr.index 9 (.string ⟨L.toArray⟩) (.int k (i : Int))).run Tryd.prog W = .ok (.int .u8 ((v.toNat : Nat) : Int)) W := by
  have hi : i < L.length := (List.getElem?_eq_some_iff.1 hv).1
  have hs : (⟨L.toArray⟩ : ByteArray).size = L.length := by show L.toArray.size = _; simp
  rw [run_index_string W 9 _ k _ Tryd.underlying9]
  rw [dif_pos ⟨by omega, by rw [hs]; omega⟩]
  have e : (⟨L.toArray⟩ : ByteArray)[(i : Int).toNat]'(by rw [hs]; omega) = v := by
    show L.toArray[(i : Int).toNat]'(by simp; omega) = v
    simp only [Int.toNat_natCast, List.getElem_toArray]
    exact (List.getElem?_eq_some_iff.1 hv).2
  rw [e]
def dgs : List UInt8 := [48, 49, 50, 51, 52, 53, 54, 55, 56, 57, 97, 98, 99, 100, 101, 102]
theorem dgs_at : ∀ x, x < 16 → dgs[x]? = some (hxd x) := by decide
end Go.Proofs.YtjifionpblpfoaaDoor

/-
  What Hex of layer 10 does. Conditions: none but that the digest reads as bytes.
-/
namespace Go.Proofs.YtjifionpblpfoaaDoor
open Go.RowKit
open Pol (co Sm)

/-- The digits as numbers. -/
def hxn (l : List Nat) : List Nat := (hxs l).map UInt8.toNat
theorem hxn_len (l : List Nat) : (hxn l).length = 2 * l.length := by unfold hxn; rw [List.length_map, hxs_len]
theorem hxn_sm (l : List Nat) : Sm (hxn l) := Pol.co_lt_of fun x hx => by
  unfold hxn at hx
  obtain ⟨y, _, rfl⟩ := List.mem_map.1 hx
  exact y.toNat_lt
theorem hxs_append : ∀ a b : List Nat, hxs (a ++ b) = hxs a ++ hxs b
  | [], _ => rfl
  | x :: a, b => by rw [List.cons_append, hxs, hxs, hxs_append a b]; rfl
theorem hxn_more (l : List Nat) (i : Nat) (h : i < l.length) : hxn (l.take (i + 1)) = hxn (l.take i) ++ [(hxd (co l i / 16)).toNat, (hxd (co l i % 16)).toNat] := by
  unfold hxn
  rw [List.take_succ_eq_append_getElem h, hxs_append, List.map_append]
  have e : co l i = l[i] := by unfold co; rw [List.getElem?_eq_getElem h]; rfl
  rw [e]
  rfl
theorem foldl_push : ∀ (L : List UInt8) (acc : ByteArray), (L.map (fun x => (x.toNat : Int))).foldl (fun (r : ByteArray) n => r.push (UInt8.ofNat n.toNat)) acc = ⟨acc.data ++ L.toArray⟩
  | [], acc => by simp
  | x :: L, acc => by
    rw [List.map_cons, List.foldl_cons, foldl_push L]
    apply ByteArray.ext
    simp [ByteArray.push]
theorem hex_text (w : World) (b o : Nat) (l : List Nat) (n c : Nat) (hn : (hxn l).length = n) (h : Rd w (some ⟨b, o, none⟩) (hxn l)) :
    (Conv.bytesToString (.slice (some ⟨b, o, none⟩) n c)).run Tryd.prog w = .ok (.string (hxb l)) w := by
  have e0 : ((hxs l).map (fun x => (x.toNat : Int))).map (Value.int .u8) = (List.range n).map (fun j => Value.int .u8 ((co (hxn l) j : Nat) : Int)) := by
    apply List.ext_getElem
    · rw [List.length_map, List.length_map, List.length_map, List.length_range, ← hn]; unfold hxn; rw [List.length_map]
    · intro j h1 h2
      have hj : j < (hxs l).length := by simpa using h1
      simp only [List.getElem_map, List.getElem_range]
      congr 2
      unfold hxn co
      rw [List.getElem?_map, List.getElem?_eq_getElem hj]
      rfl
  have hl := run_bytesToString (P := Tryd.prog) w ⟨b, o, none⟩ n c ((hxs l).map (fun x => (x.toNat : Int))) (by
    rw [e0]
    have h2 := run_loadCells (P := Tryd.prog) (w := w) ⟨b, o, none⟩ n (fun j => Value.int .u8 ((co (hxn l) j : Nat) : Int)) (fun j hj => by
      obtain ⟨b', o', e1, hc⟩ := h.2 j (by omega)
      injection e1 with e1
      injection e1 with e2 e3
      subst e2; subst e3
      have e : (⟨b, o, none⟩ : Addr).add j = ⟨b, o + j, none⟩ := by unfold Addr.add; split <;> simp_all
      rw [e]
      exact hc)
    rw [h2])
  rw [hl, foldl_push]
  congr 1
  congr 1
  apply ByteArray.ext
  simp [hxb]

set_option maxRecDepth 100000 in
theorem and15 : ∀ x : Nat, x < 256 → bits .and .u8 (x : Int) 15 = ((x % 16 : Nat) : Int) := by decide
end Go.Proofs.YtjifionpblpfoaaDoor

/-
  What Of and Hex of layer 10 do, as one statement, for the layers above it. Conditions: no more than 2^16 bytes; the constants lie where they were laid.
-/
namespace Go.Proofs.YtjifionpblpfoaaDoor
open Go.RowKit
open Pol (co Sm)

structure ShaOH : Prop where
  of : ∀ (b : List Nat) (A : Option Addr) (c : Nat) (w : World), GL w → Rd w A b → b.length ≤ c → b.length ≤ 65536 → Calls Tryd.prog 19 #[.slice A b.length c] w (DgS (sha b) w)
theorem shaOH : ShaOH where
  of b A c w hg hr hc hl := sh_of b A c w hg hr hc hl
end Go.Proofs.YtjifionpblpfoaaDoor

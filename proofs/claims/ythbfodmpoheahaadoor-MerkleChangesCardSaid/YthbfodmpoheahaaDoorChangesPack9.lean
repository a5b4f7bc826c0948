/-
  Part 9 of the texts that the seat's proofs stand on; each part of it begins with its own sentence and conditions. Conditions: those that each theorem names.
-/
import Derived.Test.YthbfodmpoheahaaDoorChangesPack8

/-
  The law MerkleShows, walked, under what the functions of layers 10 and 11 are to do. Conditions: none.
-/
namespace Go.Proofs.YthbfodmpoheahaaDoor
open Go.RowKit
open Pol (co Sm)

theorem run_load_u8s (W : World) (p : Addr) (v : Value) (h : W.cell? p = some v) : (Instr.loadAt 35 (.pointer (some p))).run Tryd.prog W = .ok v W := by
  simp only [Instr.loadAt, Instr.sureAddr, Sem.run_bind, Sem.run_pure, Result.andThen, loadVar]
  simp [isAgg, run_underlying Tryd.underlying35, h, Result.andThen, go_sem]
theorem wpList_of_wp {P : Program} {ops : Array Oper} {rest : List Oper} {o : Oper} {a : Act} {w : World} {Q : Exit → Act → World → Prop} (hgd : Region.wanted o (yielded ops a.tmps) = true) (h : Oper.wp P o a w (fun a w => wpList P ops Q rest a w) Q) : wpList P ops Q (o :: rest) a w := by
  unfold wpList
  rw [if_pos hgd]
  exact .inl h
theorem wpList_build_dig_g {ops : Array Oper} {rest : List Oper} {o : Oper} {a : Act} {w : World} {Q : Exit → Act → World → Prop} (hgd : Region.wanted o (yielded ops a.tmps) = true) (x : Operand)
    (ho : o.op = .buildSlice 25 1 #[(0, x)]) (V : Array Value) (hx : a.eval x = .agg V) (hV : V.size = 32)
    (h : wpList Tryd.prog ops Q rest (a.put o.dst (.slice (some ⟨w.heap.size, 0, none⟩) 1 1)) (w.alloc (.cells V 30))) : wpList Tryd.prog ops Q (o :: rest) a w :=
  wpList_of_wp hgd (by
    unfold Oper.wp execOp
    have e : (#[(0, x)] : Array (Nat × Operand)).map (fun (i, x) => (i, a.eval x)) = #[(0, .agg V)] := by simp [hx]
    simp only [ho, Sem.run_bind, e, run_build_dig V hV, Result.andThen_ok]
    exact h)
theorem wpList_append_drd_g {ops : Array Oper} {rest : List Oper} {o : Oper} {a : Act} {w : World} {Q : Exit → Act → World → Prop} (hgd : Region.wanted o (yielded ops a.tmps) = true) (s x : Operand)
    (ho : o.op = .call { callee := .builtin .append, args := #[s, x], argTypes := #[25, 25] })
    (base : Nat) (v : Value) (l m : List (List Nat)) (hs : a.eval s = v) (hown : DMine w base v l) (A : Option Addr) (n c : Nat) (hx : a.eval x = .slice A n c) (hn : m.length = n) (hr : DRd w A m)
    (hlen : l.length + m.length ≤ 1048576) (hbase : base ≤ w.heap.size)
    (h : ∀ v' w', DMine w' base v' (l ++ m) → w.grownBy w' v.ownBlock → (v'.ownBlock = v.ownBlock ∨ v'.ownBlock = some w.heap.size) → wpList Tryd.prog ops Q rest (a.put o.dst v') w') :
    wpList Tryd.prog ops Q (o :: rest) a w := by
  subst hn
  obtain ⟨v', w', hrun, h2, h3, h4⟩ := run_append_drd w base o.type v l m hown A c hr hlen hbase
  refine wpList_of_wp hgd ?_
  unfold Oper.wp execOp
  simp only [ho, resolve, invoke, builtin, Sem.run_bind, Sem.run_pure, Result.andThen_ok, List.map_toArray, List.map_cons, List.map_nil, hs, hx, hrun]
  exact h v' w' h2 h3 h4
theorem dmine_empty (w : World) : DMine (w.alloc (.cells #[] 30)) w.heap.size (.slice (some ⟨w.heap.size, 0, none⟩) 0 0) [] :=
  ⟨fun _ h => absurd h (by simp), World.ownsRow_lit w #[] 0 (Nat.le_refl _) (Nat.zero_le _) rfl⟩
theorem drd_keep {w w' : World} {g : Nat} {l : List (List Nat)} {row : Option Nat} (h : DRd w (some ⟨g, 0, none⟩) l) (hg : w.grownBy w' row) (hne : some g ≠ row) : DRd w' (some ⟨g, 0, none⟩) l :=
  ⟨h.1, h.2.keep hg (fun b o e _ => by injection e with e; injection e with e1; rw [← e1]; exact hne)⟩
theorem get_ro {l : List (List Nat)} {i : Nat} (h : i < l.length) : l[i]? = some (ro l i) := by
  unfold ro
  rw [List.getElem?_eq_getElem h]
  rfl
theorem shows_yes (l : List (List Nat)) (i : Nat) (hi : i < l.length) (hl : l.length ≤ 12) : shw (mroot sha l) (ro l i) (i : Int) (l.length : Int) (mprf sha l i) = true := by
  rw [shw_is hi (by omega) (mlift_prf sha l.length l i (ro l i) (Nat.le_refl _) (get_ro hi)), decide_eq_true rfl]
theorem shows_no (l : List (List Nat)) (i : Nat) (_hi : i < l.length) (d : List Nat) (t : List Nat) (ps : List (List Nat)) (h : ps.length ≠ (mprf sha l i).length) : shw d t (i : Int) (l.length : Int) ps = false := by
  refine shw_not ?_
  cases e : mlift sha (lf sha t) l.length i ps with
  | none => rfl
  | some x =>
    have h1 := (mlift_len sha l.length (lf sha t) l.length i ps (Nat.le_refl _)).1 (by rw [e]; rfl)
    rw [← mprf_len sha l.length l i (Nat.le_refl _)] at h1
    exact absurd h1 h
set_option maxHeartbeats 6400000 in
set_option maxRecDepth 100000 in
theorem shows11_walk (S : ShaOH) (C : MerkleSaid) (rows : List (List Nat)) (x : Nat) (hx256 : x < 256) (d : List Nat) (hd : d.length = 32) (hsd : Sm d) (A : Option Addr) (c : Nat) (w : World) (hgl : GL w) (hr : RRd w A rows) (hc : rows.length ≤ c) (hl : rows.length ≤ maxLen) :
    Calls Tryd.prog 5 #[.slice A rows.length c, .int .u8 (x : Int), dgv d] w (Holds w) := by
  have HAW := Lib.hid (fun W (h : Ext w W) => awake11 S C W (hgl.ext h))
  have HFW := Lib.hid (fun W (h : Ext w W) => few11 rows A c W (hr.ext h) hl)
  have hls := fun (h : fewQ rows) => show ∀ i, i < rows.length → (ro rows i).length ≤ 32768 from fun i hi => Nat.le_trans (h.2 i hi) (by decide)
  have HRT := Lib.hid (fun (h : fewQ rows) W (hx : Ext w W) => C.root rows A c W (hgl.ext hx) (hr.ext hx) hc (by have := h.1; omega) (hls h))
  have HPR := Lib.hid (fun (h : fewQ rows) i (hi : i < rows.length) W (hx : Ext w W) => C.prf rows i A c W hi (hgl.ext hx) (hr.ext hx) hc (by have := h.1; omega) (hls h))
  have HDB := Lib.hid (fun (h : fewQ rows) i => dep_big rows i h.1)
  have HRO := Lib.hid (fun i (hi : i < rows.length) => hr i hi)
  have HSC := Lib.hid (fun (h : fewQ rows) i (hi : i < rows.length) W R k qs D kd (hx : Ext w W) (ht : Rd w R (ro rows i)) (hk : (ro rows i).length ≤ k) (hq : DRd W D qs) (hkd : qs.length ≤ kd ∧ qs.length ≤ 64) =>
    C.shows (mroot sha rows) (ro rows i) (i : Int) (rows.length : Int) qs R D k kd W (hgl.ext hx) (mroot_32 _) (mroot_sm _) (ht.ext hx) hk (Nat.le_trans (h.2 i hi) (by decide)) hq hkd.1 (by omega))
  have HYS := Lib.hid (fun (h : fewQ rows) i (hi : i < rows.length) => shows_yes rows i hi h.1)
  have HNO := Lib.hid (fun i (hi : i < rows.length) ps h => shows_no rows i hi (mroot sha rows) (ro rows i) ps h)
  have HLB := Lib.hid (fun (W : World) (g : Nat) (h : W.heap[g]? = some (.cells (bt 32 (co (mroot sha rows))) 30 (0, 0))) => load_blk W g (mroot sha rows) 30 (0, 0) h)
  have HLM := Lib.hid (fun (W : World) (g : Nat) (h : W.heap[g]? = some (.cells (bt 32 (co d)) 30 (0, 0))) => load_blk W g d 30 (0, 0) h)
  have HLD := Lib.hid (fun W => one_drd W d hd hsd)
  have HVS := Lib.hid (show (bt 32 (co d)).size = 32 from bt_size _ _)
  have HVR := Lib.hid (bt_dgc (mroot sha rows))
  have HVD := Lib.hid (bt_dgc d)
  have hz := zero_digest.1
  have HZ32 := Lib.hid (fun (_ : Unit) => show (bt 32 fun _ => 0).size = 32 from bt_size _ _)
  obtain ⟨Z, hZ⟩ : ∃ Z, (bt 32 fun _ => 0) = Z := ⟨_, rfl⟩
  rw [hZ] at hz HZ32
  obtain ⟨n, hn⟩ : ∃ n, rows.length = n := ⟨_, rfl⟩
  rw [hn] at HFW HRT HPR HRO HSC HYS HNO ⊢
  unfold ProofS at HPR
  unfold dgv at HRT HSC HLB HLM ⊢
  obtain ⟨VR, hVR⟩ : ∃ V, bt 32 (co (mroot sha rows)) = V := ⟨_, rfl⟩
  rw [hVR] at HRT HSC HLB HVR
  obtain ⟨VD, hVD⟩ : ∃ V, bt 32 (co d) = V := ⟨_, rfl⟩
  rw [hVD] at HLM HVD HLD HVS ⊢
  obtain ⟨MR, hMR⟩ : ∃ m, mroot sha rows = m := ⟨_, rfl⟩
  rw [hMR] at HSC HYS HNO HVR
  obtain ⟨gd, hgd⟩ : ∃ g, w.heap.size = g := ⟨_, rfl⟩
  have HGD0 := Lib.hid (show (w.alloc (.cells VD 30)).heap[gd]? = some (.cells VD 30 (0, 0)) from by rw [← hgd]; exact heap_alloc_new w _)
  have HX0 := Lib.hid ((Ext.refl w).alloc (.cells VD 30))
  clear hgl hr hc hl hls hVR hVD hZ hMR hd hsd
  go_enter Tryd.func5, Tryd.ntmps5
  go_wp2_with (refine wpList_box_of rfl 30 (.tmp 2) rfl VD rfl ?_)
  generalize w.alloc (.cells VD 30) = w0 at HGD0 HX0 ⊢
  clear hgd
  go_wp2_with fail
  refine (HAW.out _ HX0.out).mono ?_
  rintro e w1 ⟨rfl, hx1⟩
  have HX1 := Lib.hid (HX0.out.trans hx1)
  have HGD1 := Lib.hid (WBlk.ext' HGD0.out hx1)
  clear hx1
  go_wp2_with fail
  refine (HFW.out _ HX1.out).mono ?_
  rintro e w2 ⟨b, rfl, hq, rfl⟩
  cases b with
  | false =>
    clear hq
    go_wp2_with fail
    refine (HAW.out _ HX1.out).mono ?_
    rintro e w3 ⟨rfl, hx3⟩
    have HX3 := Lib.hid (HX1.out.trans hx3)
    clear hx3
    go_wp2
    go_ret
    exact ⟨rfl, HX3.out⟩
  | true =>
    have HF := Lib.hid (hq rfl)
    clear hq
    by_cases hn0 : n = 0
    · subst hn0
      go_wp2_with fail
      refine (HAW.out _ HX1.out).mono ?_
      rintro e w3 ⟨rfl, hx3⟩
      have HX3 := Lib.hid (HX1.out.trans hx3)
      clear hx3
      go_wp2
      go_ret
      exact ⟨rfl, HX3.out⟩
    have hnI : ¬ (n : Int) = 0 := by omega
    have dn : decide ((n : Int) = 0) = false := decide_eq_false hnI
    obtain ⟨i, hi⟩ : ∃ i, x % n = i := ⟨_, rfl⟩
    have him : i < n := by rw [← hi]; exact Nat.mod_lt _ (by omega)
    have htm : Int.tmod (x : Int) (n : Int) = (i : Int) := by rw [← hi]; rfl
    have HP := Lib.hid (HPR.out HF.out i him)
    have HL := Lib.hid (HDB.out HF.out i)
    obtain ⟨ba, oa, R1, k1, rfl, hc1, hl1, hr1⟩ := HRO.out i him
    have HT1 := Lib.hid (fun W (h : Ext w W) => run_load_u8s W _ _ ((h.below.cell (p := ⟨ba, oa + i, none⟩) (block_lt_of_cell hc1)).trans hc1))
    have HSI := Lib.hid (fun W qs D kd (hx : Ext w W) (hq : DRd W D qs) (hkd : qs.length ≤ kd ∧ qs.length ≤ 64) => HSC.out HF.out i him W R1 k1 qs D kd hx hr1 hl1 hq hkd)
    have HYI := Lib.hid (HYS.out HF.out i him)
    have HNI := Lib.hid (HNO.out i him)
    have hiI : (i : Int) < (n : Int) := by omega
    obtain ⟨t1, ht1⟩ : ∃ t, (ro rows i).length = t := ⟨_, rfl⟩
    rw [ht1] at HT1 HSI
    have HIM := Lib.hid him
    clear hi hc1 hl1 hr1 ht1 HSC HYS HNO HRO him
    go_wp2_with fail
    refine (HRT.out HF.out _ HX1.out).mono ?_
    rintro e w3 ⟨rfl, hx3⟩
    have HX3 := Lib.hid (HX1.out.trans hx3)
    have HGD3 := Lib.hid (WBlk.ext' HGD1.out hx3)
    clear hx3
    obtain ⟨gx, hgx⟩ : ∃ g, w3.heap.size = g := ⟨_, rfl⟩
    have HGX := Lib.hid (show (w3.alloc (.cells Z 30)).heap[gx]? = some (.cells Z 30 (0, 0)) from by rw [← hgx]; exact heap_alloc_new _ _)
    have HI := Lib.hid HVR.out.info
    have HO := Lib.hid HVR.out.one
    have HZZ := Lib.hid (show Z.size = VR.size from by rw [HVR.out.1]; exact HZ32.out ())
    have HX34 := Lib.hid (show Ext w3 ((w3.alloc (.cells Z 30)).setRow gx VR) from Ext.setRow ((Ext.refl w3).alloc _) (by rw [← hgx]; exact Nat.le_refl _) VR)
    have HG4 := Lib.hid (setRow_heap _ gx _ VR _ _ HGX.out)
    go_wp2_with (with_reducible refine wpList_store_all rfl 30 (.tmp 8) (.tmp 30) rfl gx Z VR rfl rfl HGX.out HI.out HZZ.out HO.out ?_)
    generalize (w3.alloc (.cells Z 30)).setRow gx VR = w4 at HX34 HG4 ⊢
    clear hgx
    have HX4 := Lib.hid (HX3.out.trans HX34.out)
    have HGD4 := Lib.hid (WBlk.ext' HGD3.out HX34.out)
    refine (HP.out _ HX4.out).mono ?_
    rintro e w5 ⟨v, rfl, hm, hx5⟩
    have HX5 := Lib.hid (HX4.out.trans hx5)
    have HG5 := Lib.hid (WBlk.ext' HG4.out hx5)
    have HGD5 := Lib.hid (WBlk.ext' HGD4.out hx5)
    obtain ⟨B, k, rfl, hk, hrd⟩ := hm.slice
    obtain ⟨P, hP⟩ : ∃ P, mprf sha rows i = P := ⟨_, rfl⟩
    rw [hP] at hk hrd HL HYI HNI ⊢
    have HRD := Lib.hid hrd
    have HK := Lib.hid hk
    obtain ⟨p, hp⟩ : ∃ p, P.length = p := ⟨_, rfl⟩
    have HPL := Lib.hid hp
    rw [hp] at hk HK HL ⊢
    clear hm hk hrd hP hx5 hp
    go_wp2
    obtain ⟨wz, hwz⟩ : ∃ W, W = w5 := ⟨_, rfl⟩
    have LR := Lib.hid (fun (W : World) (h : AfterH w5 W) => show (Instr.loadAt 30 (.pointer (some ⟨gx, 0, none⟩))).run Tryd.prog W = .ok (.agg VR) W from HLB.out W gx (WBlk.ext' HG5.out h))
    have LM := Lib.hid (fun (W : World) (h : AfterH w5 W) => show (Instr.loadAt 30 (.pointer (some ⟨gd, 0, none⟩))).run Tryd.prog W = .ok (.agg VD) W from HLM.out W gd (WBlk.ext' HGD5.out h))
    have LT := Lib.hid (fun (W : World) (h : AfterH w5 W) => show (Instr.loadAt 35 (.pointer (some ⟨ba, oa + i, none⟩))).run Tryd.prog W = .ok (.slice R1 t1 k1) W from HT1.out W (HX5.out.trans h))
    have S1 := Lib.hid (fun (W : World) (h : AfterH w5 W) => show Calls Tryd.prog 16 #[.agg VR, .slice R1 t1 k1, .int .i64 (i : Int), .int .i64 (n : Int), .slice B p k] W (fun e w' => e = .returned (.bool true) ∧ AfterH w5 w') from by have h1 := HSI.out W P B k (HX5.out.trans h) (HRD.out.ext h) ⟨by have := HPL.out; have := HK.out; omega, by have := HPL.out; have := HL.out; omega⟩; rw [HYI.out, HPL.out] at h1; exact h1.mono fun _ _ x => ⟨x.1, Ext.trans h x.2⟩)
    have HS5 := Lib.hid (Nat.le_refl w5.heap.size)
    clear hwz wz
    refine wp_region_plan (AfterH w5) [0, 1, 2, 3, 4, 5, 6, 7, 8, 9, 10, 11, 12, 13, 14, 15, 16, 17, 18, 19, 20, 21, 22, 23, 24, 25, 26, 27, 28, 29] (.yes 0 (.yes 1 (.yes 2 (.yes 3 (.yes 4 (.yes 5 (.yes 6 (.yes 7 (.yes 8 (.yes 9 (.yes 10 (.yes 11 (.one 12 (.yes 13 (.yes 14 (.yes 15 (.yes 16 (.yes 17 (.yes 18 (.yes 19 (.yes 20 (.yes 21 (.yes 22 (.yes 23 (.yes 25 (.yes 27 (.two 24 (.two 26 (.one 28 (.one 29 (.one 30 (.one 31 .done)))) 28 (.one 26 (.one 29 (.one 30 (.one 31 .done))))) 28 (.one 24 (.one 26 (.one 29 (.one 30 (.one 31 .done)))))))))))))))))))))))))))))))) (by kernel_rfl) (fun c a a' w e h => ⟨e ▸ h.1, h.2⟩) (by kernel_rfl) ((Ext.refl w5).drew) ?_
    refine plan_yes rfl (fun K hK => ?_); go_simp; refine ⟨_, fun _ _ => rfl, hK _ ?_⟩; clear hK K
    refine plan_yes rfl (fun K hK => ?_); go_simp; refine ⟨_, fun _ _ => rfl, hK _ ?_⟩; clear hK K
    refine plan_yes rfl (fun K hK => ?_); go_simp; refine ⟨_, fun _ _ => rfl, hK _ ?_⟩; clear hK K
    refine plan_load rfl 30 (.tmp 8) rfl (.agg VR) (by rfl) (fun W hW => LR.out W hW) ?_
    refine plan_yes rfl (fun K hK => ?_); go_simp; refine ⟨_, fun _ _ => rfl, hK _ ?_⟩; clear hK K
    refine plan_yes rfl (fun K hK => ?_); go_simp; refine ⟨_, fun _ _ => rfl, hK _ ?_⟩; clear hK K
    refine plan_yes rfl (fun K hK => ?_); go_simp; refine ⟨_, fun _ _ => rfl, hK _ ?_⟩; clear hK K
    refine plan_load rfl 35 (.tmp 43) rfl (.slice R1 t1 k1) (by rfl) (fun W hW => LT.out W hW) ?_
    refine plan_yes rfl (fun K hK => ?_); go_simp; refine ⟨_, fun _ _ => rfl, hK _ ?_⟩; clear hK K
    refine plan_yes rfl (fun K hK => ?_); go_simp; refine ⟨_, fun _ _ => rfl, hK _ ?_⟩; clear hK K
    refine plan_yes rfl (fun K hK => ?_); go_simp; refine ⟨_, fun _ _ => rfl, hK _ ?_⟩; clear hK K
    refine plan_yes rfl (fun K hK => ?_); go_simp; refine ⟨_, fun _ _ => rfl, hK _ ?_⟩; clear hK K
    refine plan_one rfl (fun K hK => ?_)
    go_wp2_with fail
    refine (S1.out _ ((Ext.refl w5).drew)).mono ?_
    rintro e v6 ⟨rfl, hx6⟩
    have HXv6 := Lib.hid hx6
    clear hx6
    go_wp2
    refine ⟨fun _ => HXv6.out, ?_⟩
    refine plan_yes rfl (fun K hK => ?_); go_simp; refine ⟨_, fun _ _ => rfl, hK _ ?_⟩; clear hK K
    refine plan_yes rfl (fun K hK => ?_); go_simp; refine ⟨_, fun _ _ => rfl, hK _ ?_⟩; clear hK K
    refine plan_yes rfl (fun K hK => ?_); go_simp; refine ⟨_, fun _ _ => rfl, hK _ ?_⟩; clear hK K
    refine plan_load rfl 30 (.tmp 8) rfl (.agg VR) (by rfl) (fun W hW => LR.out W hW) ?_
    refine plan_yes rfl (fun K hK => ?_); go_simp; refine ⟨_, fun _ _ => rfl, hK _ ?_⟩; clear hK K
    refine plan_yes rfl (fun K hK => ?_); go_simp; refine ⟨_, fun _ _ => rfl, hK _ ?_⟩; clear hK K
    refine plan_yes rfl (fun K hK => ?_); go_simp; refine ⟨_, fun _ _ => rfl, hK _ ?_⟩; clear hK K
    refine plan_load rfl 35 (.tmp 56) rfl (.slice R1 t1 k1) (by rfl) (fun W hW => LT.out W hW) ?_
    refine plan_yes rfl (fun K hK => ?_); go_simp; refine ⟨_, fun _ _ => rfl, hK _ ?_⟩; clear hK K
    refine plan_yes rfl (fun K hK => ?_); go_simp; refine ⟨_, fun _ _ => rfl, hK _ ?_⟩; clear hK K
    refine plan_yes rfl (fun K hK => ?_); go_simp; refine ⟨_, fun _ _ => rfl, hK _ ?_⟩; clear hK K
    refine plan_yes rfl (fun K hK => ?_); go_simp; refine ⟨_, fun _ _ => rfl, hK _ ?_⟩; clear hK K
    refine plan_load rfl 30 (.tmp 5) rfl (.agg VD) (by rfl) (fun W hW => LM.out W hW) ?_
  -- the arms
    refine plan_two rfl rfl (fun K hK => ?_) (fun K hK => ?_)
    · skip
      have HXn := Lib.hid (show AfterH w5 (World.alloc v6 (.cells #[] 30)) from Ext.alloc HXv6.out _)
      have HMn := Lib.hid (show DMine (World.alloc v6 (.cells #[] 30)) v6.heap.size (.slice (some ⟨v6.heap.size, 0, none⟩) 0 0) [] from dmine_empty v6)
      have HSn := Lib.hid (show w5.heap.size ≤ v6.heap.size from Ext.size HXv6.out)
      go_wp2
      refine ⟨fun _ => HXn.out, ?_⟩
      obtain ⟨ge, hge⟩ : ∃ g, v6.heap.size = g := ⟨_, rfl⟩
      rw [hge] at HMn HSn ⊢
      generalize World.alloc v6 _ = v624 at HXn HMn ⊢
      have HXv624 := Lib.hid HXn.out
      have HMv624 := Lib.hid HMn.out
      have HSE := Lib.hid HSn.out
      clear HXn HMn HSn hge
      refine plan_two rfl rfl (fun K hK => ?_) (fun K hK => ?_)
      · skip
        refine wpList_append_drd_g (by rfl) (.tmp 61) (.tmp 62) rfl ge _ [] P rfl HMv624.out B p k rfl HPL.out (HRD.out.ext HXv624.out) (by have := HL.out; have := HPL.out; simp; omega) (by have := HMv624.out.block ge rfl; omega) ?_
        intro v' v62426 hm' hg' hb'
        rw [List.nil_append] at hm'
        have HXv62426 := Lib.hid (show AfterH w5 v62426 from Ext.more HXv624.out hg' (fun k e => Nat.le_trans HSE.out (HMv624.out.block k e).1))
        have HMv62426 := Lib.hid (show DMine v62426 w5.heap.size v' P from hm'.down HSE.out)
        clear hm' hg' hb'
        go_wp2
        refine ⟨fun _ => HXv62426.out, ?_⟩
        refine plan_one rfl (fun K hK => ?_)
        have HXn := Lib.hid (show AfterH w5 (World.alloc v62426 (.cells VD 30)) from Ext.alloc HXv62426.out _)
        have HBn := Lib.hid (HLD.out v62426)
        have HLn := Lib.hid (show w5.heap.size ≤ v62426.heap.size from Ext.size HXv62426.out)
        have HMn := Lib.hid (HMv62426.out.ext ((Ext.refl _).alloc (.cells VD 30)))
        have HNn := Lib.hid (fun k e => (HMv62426.out.block k e).2)
        refine wpList_build_dig_g (by rfl) (.tmp 64) rfl VD rfl HVS.out ?_
        go_wp2
        refine ⟨fun _ => HXn.out, ?_⟩
        have HLS := Lib.hid (show (World.alloc v62426 (.cells VD 30)).heap.size = v62426.heap.size + 1 from by simp)
        obtain ⟨gl, hgl⟩ : ∃ g, v62426.heap.size = g := ⟨_, rfl⟩
        rw [hgl] at HBn HLS HNn ⊢
        generalize World.alloc v62426 _ = v6242628 at HXn HBn HLS HMn ⊢
        have HXv6242628 := Lib.hid HXn.out
        have HBv6242628 := Lib.hid HBn.out
        have HLG := Lib.hid (show gl < v6242628.heap.size from by have h := HLS.out; omega)
        clear HXn HBn HLn HLS hgl
        have HMv6242628 := Lib.hid HMn.out
        have HNV := Lib.hid HNn.out
        clear HMn HNn
        refine plan_one rfl (fun K hK => ?_)
        refine wpList_append_drd_g (by rfl) (.tmp 63) (.tmp 65) rfl w5.heap.size _ P [d] rfl HMv6242628.out (some ⟨gl, 0, none⟩) 1 1 rfl rfl HBv6242628.out (by have := HL.out; have := HPL.out; simp; omega) (Ext.size HXv6242628.out) ?_
        intro v7 w7 hm7 hg7 hb7
        have HX7 := Lib.hid (show AfterH w5 w7 from Ext.more HXv6242628.out hg7 (fun k e => (HMv6242628.out.block k e).1))
        obtain ⟨B7, c7, rfl, hc7, hr7⟩ := hm7.slice
        have HR7 := Lib.hid hr7
        have HC7 := Lib.hid hc7
        obtain ⟨qs, hqs⟩ : ∃ q, P ++ [d] = q := ⟨_, rfl⟩
        have HQL := Lib.hid (show qs.length = P.length + 1 from by rw [← hqs]; simp)
        rw [hqs] at HR7 HC7 ⊢
        have S7 := Lib.hid (fun (W : World) (h : Ext w7 W) => show Calls Tryd.prog 16 #[.agg VR, .slice R1 t1 k1, .int .i64 (i : Int), .int .i64 (n : Int), .slice B7 qs.length c7] W (fun e w' => e = .returned (.bool false) ∧ AfterH w5 w') from by have h1 := HSI.out W qs B7 c7 ((HX5.out.trans HX7.out).trans h) (HR7.out.ext h) ⟨HC7.out, by have := HPL.out; have := HL.out; have := HQL.out; omega⟩; rw [HNI.out qs (by have := HQL.out; omega)] at h1; exact h1.mono fun _ _ x => ⟨x.1, Ext.trans HX7.out (h.trans x.2)⟩)
        clear hm7 hg7 hb7 hc7 hr7 hqs
        go_wp2
        refine ⟨fun _ => HX7.out, ?_⟩
        refine plan_one rfl (fun K hK => ?_)
        go_wp2_with fail
        refine (S7.out _ (Ext.refl _)).mono ?_
        rintro e w8 ⟨rfl, hx8⟩
        have HX8 := Lib.hid hx8
        clear hx8
        go_wp2
        refine ⟨fun h => absurd h (by decide), ?_⟩
        refine plan_one rfl (fun K hK => ?_)
        go_wp2
        refine ⟨fun h => absurd h (by decide), ?_⟩
        unfold wpPlan
        go_wp2
        have HX9 := Lib.hid (HX5.out.trans HX8.out)
        have HG9 := Lib.hid (WBlk.ext' HG5.out HX8.out)
        have HR9 := Lib.hid (HRD.out.ext HX8.out)
        clear HX7 HR7 HC7 HQL S7
        by_cases hp0 : p = 0
        · have dp : decide ((p : Int) = 0) = true := decide_eq_true (by omega)
          subst hp0
          go_quiet (skip)
          all_goals (go_wp2; go_ret; exact ⟨rfl, HX9.out.drewN _⟩)
        · have dp : decide ((p : Int) = 0) = false := decide_eq_false (by omega)
          obtain ⟨q, rfl⟩ : ∃ q, p = q + 1 := ⟨p - 1, by omega⟩
          clear hp0
          have HTO := Lib.hid (fun W => run_to_dig B (q + 1) k q (by have := HK.out; omega) W)
          have HQ64 := Lib.hid (show q ≤ 1048577 from by have := HL.out; omega)
          have hw1 := w64_pred q HQ64.out
          have hw3 := i64_nat q HQ64.out
          have hq0 : (0 : Int) ≤ (q : Int) := by omega
          have hqk : (q : Int) ≤ (k : Int) := by have := HK.out; omega
          have hw2 := w64_prd q HQ64.out
          have L9 := Lib.hid (fun (W : World) (h : AfterH w8 W) => show (Instr.loadAt 30 (.pointer (some ⟨gx, 0, none⟩))).run Tryd.prog W = .ok (.agg VR) W from HLB.out W gx (WBlk.ext' HG9.out h))
          have T9 := Lib.hid (fun (W : World) (h : AfterH w8 W) => show (Instr.loadAt 35 (.pointer (some ⟨ba, oa + i, none⟩))).run Tryd.prog W = .ok (.slice R1 t1 k1) W from HT1.out W (HX9.out.trans h))
          have HTL := Lib.hid (show (P.take q).length = q from by rw [List.length_take, HPL.out]; omega)
          have S9 := Lib.hid (fun (W : World) (h : AfterH w8 W) => show Calls Tryd.prog 16 #[.agg VR, .slice R1 t1 k1, .int .i64 (i : Int), .int .i64 (n : Int), .slice B q k] W (fun e w' => e = .returned (.bool false) ∧ AfterH w8 w') from by have h1 := HSI.out W (P.take q) B k (HX9.out.trans h) ((HR9.out.take q).ext h) ⟨by have := HTL.out; have := HK.out; omega, by have := HTL.out; have := HL.out; omega⟩; rw [HNI.out (P.take q) (by have := HTL.out; have := HPL.out; omega), HTL.out] at h1; exact h1.mono fun _ _ x => ⟨x.1, Ext.trans h x.2⟩)
          refine wp_region_quiet (C := AfterH w8) (by kernel_rfl) (by kernel_rfl) (show AfterH w8 w8.drew from (Ext.refl w8).drew) ?_
          refine wpQuiet_step (fun K hK => ?_); go_simp; refine ⟨_, fun _ _ => rfl, hK _ ?_⟩; clear hK K
          refine wpQuiet_step (fun K hK => ?_); go_simp; refine ⟨_, fun _ _ => rfl, hK _ ?_⟩; clear hK K
          refine wpQuiet_step (fun K hK => ?_); go_simp; refine ⟨_, fun _ _ => rfl, hK _ ?_⟩; clear hK K
          refine wpQuiet_step (fun K hK => ?_); go_simp; refine ⟨_, fun _ _ => rfl, hK _ ?_⟩; clear hK K
          refine wpQuiet_load_g (by rfl) 30 (.tmp 8) rfl (.agg VR) (fun W hW => L9.out W hW) ?_
          refine wpQuiet_step (fun K hK => ?_); go_simp; refine ⟨_, fun _ _ => rfl, hK _ ?_⟩; clear hK K
          refine wpQuiet_step (fun K hK => ?_); go_simp; refine ⟨_, fun _ _ => rfl, hK _ ?_⟩; clear hK K
          refine wpQuiet_step (fun K hK => ?_); go_simp; refine ⟨_, fun _ _ => rfl, hK _ ?_⟩; clear hK K
          refine wpQuiet_load_g (by rfl) 35 (.tmp 76) rfl (.slice R1 t1 k1) (fun W hW => T9.out W hW) ?_
          refine wpQuiet_step (fun K hK => ?_); go_simp; refine ⟨_, fun _ _ => rfl, hK _ ?_⟩; clear hK K
          refine wpQuiet_step (fun K hK => ?_); go_simp; refine ⟨_, fun _ _ => rfl, hK _ ?_⟩; clear hK K
          refine wpQuiet_step (fun K hK => ?_); go_simp; refine ⟨_, fun _ _ => rfl, hK _ ?_⟩; clear hK K
          refine wpQuiet_step (fun K hK => ?_); go_simp; refine ⟨_, fun _ _ => rfl, hK _ ?_⟩; clear hK K
          refine wpQuiet_step (fun K hK => ?_); go_simp; refine ⟨_, fun _ _ => rfl, hK _ ?_⟩; clear hK K
          refine wpQuiet_step (fun K hK => ?_); go_simp; refine ⟨_, fun _ _ => rfl, hK _ ?_⟩; clear hK K
          refine wpQuiet_step (fun K hK => ?_); go_simp; refine ⟨_, fun _ _ => rfl, hK _ ?_⟩; clear hK K
          refine wpQuiet_step (fun K hK => ?_); go_simp; refine ⟨_, fun W _ => (by first | exact ⟨rfl, rfl⟩ | rfl), hK _ ?_⟩; clear hK K
          refine wpQuiet_step (fun K hK => ?_); go_simp; refine ⟨_, fun W hW => S9.out W hW, hK _ ?_⟩; clear hK K
          refine wpQuiet_step (fun K hK => ?_); go_simp; refine ⟨_, fun _ _ => rfl, hK _ ?_⟩; clear hK K
          refine wpQuiet_step (fun K hK => ?_); go_simp; refine ⟨_, fun _ _ => rfl, hK _ ?_⟩; clear hK K
          refine wpQuiet_step (fun K hK => ?_); go_simp; refine ⟨_, fun _ _ => rfl, hK _ ?_⟩; clear hK K
          refine wpQuiet_nil ?_
          intro w9 hx9
          have HXE := Lib.hid (HX9.out.trans hx9)
          clear hx9
          go_wp2
          go_ret
          exact ⟨rfl, HXE.out⟩
      · skip
        have HXn := Lib.hid (show AfterH w5 (World.alloc v624 (.cells VD 30)) from Ext.alloc HXv624.out _)
        have HBn := Lib.hid (HLD.out v624)
        have HLn := Lib.hid (show w5.heap.size ≤ v624.heap.size from Ext.size HXv624.out)
        have HMn := Lib.hid (HMv624.out.ext ((Ext.refl _).alloc (.cells VD 30)))
        have HNn := Lib.hid (fun k e => (HMv624.out.block k e).2)
        refine wpList_build_dig_g (by rfl) (.tmp 64) rfl VD rfl HVS.out ?_
        go_wp2
        refine ⟨fun _ => HXn.out, ?_⟩
        have HLS := Lib.hid (show (World.alloc v624 (.cells VD 30)).heap.size = v624.heap.size + 1 from by simp)
        obtain ⟨gl, hgl⟩ : ∃ g, v624.heap.size = g := ⟨_, rfl⟩
        rw [hgl] at HBn HLS HNn ⊢
        generalize World.alloc v624 _ = v62428 at HXn HBn HLS HMn ⊢
        have HXv62428 := Lib.hid HXn.out
        have HBv62428 := Lib.hid HBn.out
        have HLG := Lib.hid (show gl < v62428.heap.size from by have h := HLS.out; omega)
        clear HXn HBn HLn HLS hgl
        have HMv62428 := Lib.hid HMn.out
        have HNV := Lib.hid HNn.out
        clear HMn HNn
        refine plan_one rfl (fun K hK => ?_)
        refine wpList_append_drd_g (by rfl) (.tmp 61) (.tmp 62) rfl ge _ [] P rfl HMv62428.out B p k rfl HPL.out (HRD.out.ext HXv62428.out) (by have := HL.out; have := HPL.out; simp; omega) (by have := HMv62428.out.block ge rfl; omega) ?_
        intro v' v6242826 hm' hg' hb'
        rw [List.nil_append] at hm'
        have HXv6242826 := Lib.hid (show AfterH w5 v6242826 from Ext.more HXv62428.out hg' (fun k e => Nat.le_trans HSE.out (HMv62428.out.block k e).1))
        have HMv6242826 := Lib.hid (show DMine v6242826 w5.heap.size v' P from hm'.down HSE.out)
        have HBv6242826 := Lib.hid (drd_keep HBv62428.out hg' (by first | (intro h; injection h with h; exact HNE.out h.symm) | (intro h; have := HNV.out gl h.symm; omega)))
        clear hm' hg' hb'
        go_wp2
        refine ⟨fun _ => HXv6242826.out, ?_⟩
        refine plan_one rfl (fun K hK => ?_)
        refine wpList_append_drd_g (by rfl) (.tmp 63) (.tmp 65) rfl w5.heap.size _ P [d] rfl HMv6242826.out (some ⟨gl, 0, none⟩) 1 1 rfl rfl HBv6242826.out (by have := HL.out; have := HPL.out; simp; omega) (Ext.size HXv6242826.out) ?_
        intro v7 w7 hm7 hg7 hb7
        have HX7 := Lib.hid (show AfterH w5 w7 from Ext.more HXv6242826.out hg7 (fun k e => (HMv6242826.out.block k e).1))
        obtain ⟨B7, c7, rfl, hc7, hr7⟩ := hm7.slice
        have HR7 := Lib.hid hr7
        have HC7 := Lib.hid hc7
        obtain ⟨qs, hqs⟩ : ∃ q, P ++ [d] = q := ⟨_, rfl⟩
        have HQL := Lib.hid (show qs.length = P.length + 1 from by rw [← hqs]; simp)
        rw [hqs] at HR7 HC7 ⊢
        have S7 := Lib.hid (fun (W : World) (h : Ext w7 W) => show Calls Tryd.prog 16 #[.agg VR, .slice R1 t1 k1, .int .i64 (i : Int), .int .i64 (n : Int), .slice B7 qs.length c7] W (fun e w' => e = .returned (.bool false) ∧ AfterH w5 w') from by have h1 := HSI.out W qs B7 c7 ((HX5.out.trans HX7.out).trans h) (HR7.out.ext h) ⟨HC7.out, by have := HPL.out; have := HL.out; have := HQL.out; omega⟩; rw [HNI.out qs (by have := HQL.out; omega)] at h1; exact h1.mono fun _ _ x => ⟨x.1, Ext.trans HX7.out (h.trans x.2)⟩)
        clear hm7 hg7 hb7 hc7 hr7 hqs
        go_wp2
        refine ⟨fun _ => HX7.out, ?_⟩
        refine plan_one rfl (fun K hK => ?_)
        go_wp2_with fail
        refine (S7.out _ (Ext.refl _)).mono ?_
        rintro e w8 ⟨rfl, hx8⟩
        have HX8 := Lib.hid hx8
        clear hx8
        go_wp2
        refine ⟨fun h => absurd h (by decide), ?_⟩
        refine plan_one rfl (fun K hK => ?_)
        go_wp2
        refine ⟨fun h => absurd h (by decide), ?_⟩
        unfold wpPlan
        go_wp2
        have HX9 := Lib.hid (HX5.out.trans HX8.out)
        have HG9 := Lib.hid (WBlk.ext' HG5.out HX8.out)
        have HR9 := Lib.hid (HRD.out.ext HX8.out)
        clear HX7 HR7 HC7 HQL S7
        by_cases hp0 : p = 0
        · have dp : decide ((p : Int) = 0) = true := decide_eq_true (by omega)
          subst hp0
          go_quiet (skip)
          all_goals (go_wp2; go_ret; exact ⟨rfl, HX9.out.drewN _⟩)
        · have dp : decide ((p : Int) = 0) = false := decide_eq_false (by omega)
          obtain ⟨q, rfl⟩ : ∃ q, p = q + 1 := ⟨p - 1, by omega⟩
          clear hp0
          have HTO := Lib.hid (fun W => run_to_dig B (q + 1) k q (by have := HK.out; omega) W)
          have HQ64 := Lib.hid (show q ≤ 1048577 from by have := HL.out; omega)
          have hw1 := w64_pred q HQ64.out
          have hw3 := i64_nat q HQ64.out
          have hq0 : (0 : Int) ≤ (q : Int) := by omega
          have hqk : (q : Int) ≤ (k : Int) := by have := HK.out; omega
          have hw2 := w64_prd q HQ64.out
          have L9 := Lib.hid (fun (W : World) (h : AfterH w8 W) => show (Instr.loadAt 30 (.pointer (some ⟨gx, 0, none⟩))).run Tryd.prog W = .ok (.agg VR) W from HLB.out W gx (WBlk.ext' HG9.out h))
          have T9 := Lib.hid (fun (W : World) (h : AfterH w8 W) => show (Instr.loadAt 35 (.pointer (some ⟨ba, oa + i, none⟩))).run Tryd.prog W = .ok (.slice R1 t1 k1) W from HT1.out W (HX9.out.trans h))
          have HTL := Lib.hid (show (P.take q).length = q from by rw [List.length_take, HPL.out]; omega)
          have S9 := Lib.hid (fun (W : World) (h : AfterH w8 W) => show Calls Tryd.prog 16 #[.agg VR, .slice R1 t1 k1, .int .i64 (i : Int), .int .i64 (n : Int), .slice B q k] W (fun e w' => e = .returned (.bool false) ∧ AfterH w8 w') from by have h1 := HSI.out W (P.take q) B k (HX9.out.trans h) ((HR9.out.take q).ext h) ⟨by have := HTL.out; have := HK.out; omega, by have := HTL.out; have := HL.out; omega⟩; rw [HNI.out (P.take q) (by have := HTL.out; have := HPL.out; omega), HTL.out] at h1; exact h1.mono fun _ _ x => ⟨x.1, Ext.trans h x.2⟩)
          refine wp_region_quiet (C := AfterH w8) (by kernel_rfl) (by kernel_rfl) (show AfterH w8 w8.drew from (Ext.refl w8).drew) ?_
          refine wpQuiet_step (fun K hK => ?_); go_simp; refine ⟨_, fun _ _ => rfl, hK _ ?_⟩; clear hK K
          refine wpQuiet_step (fun K hK => ?_); go_simp; refine ⟨_, fun _ _ => rfl, hK _ ?_⟩; clear hK K
          refine wpQuiet_step (fun K hK => ?_); go_simp; refine ⟨_, fun _ _ => rfl, hK _ ?_⟩; clear hK K
          refine wpQuiet_step (fun K hK => ?_); go_simp; refine ⟨_, fun _ _ => rfl, hK _ ?_⟩; clear hK K
          refine wpQuiet_load_g (by rfl) 30 (.tmp 8) rfl (.agg VR) (fun W hW => L9.out W hW) ?_
          refine wpQuiet_step (fun K hK => ?_); go_simp; refine ⟨_, fun _ _ => rfl, hK _ ?_⟩; clear hK K
          refine wpQuiet_step (fun K hK => ?_); go_simp; refine ⟨_, fun _ _ => rfl, hK _ ?_⟩; clear hK K
          refine wpQuiet_step (fun K hK => ?_); go_simp; refine ⟨_, fun _ _ => rfl, hK _ ?_⟩; clear hK K
          refine wpQuiet_load_g (by rfl) 35 (.tmp 76) rfl (.slice R1 t1 k1) (fun W hW => T9.out W hW) ?_
          refine wpQuiet_step (fun K hK => ?_); go_simp; refine ⟨_, fun _ _ => rfl, hK _ ?_⟩; clear hK K
          refine wpQuiet_step (fun K hK => ?_); go_simp; refine ⟨_, fun _ _ => rfl, hK _ ?_⟩; clear hK K
          refine wpQuiet_step (fun K hK => ?_); go_simp; refine ⟨_, fun _ _ => rfl, hK _ ?_⟩; clear hK K
          refine wpQuiet_step (fun K hK => ?_); go_simp; refine ⟨_, fun _ _ => rfl, hK _ ?_⟩; clear hK K
          refine wpQuiet_step (fun K hK => ?_); go_simp; refine ⟨_, fun _ _ => rfl, hK _ ?_⟩; clear hK K
          refine wpQuiet_step (fun K hK => ?_); go_simp; refine ⟨_, fun _ _ => rfl, hK _ ?_⟩; clear hK K
          refine wpQuiet_step (fun K hK => ?_); go_simp; refine ⟨_, fun _ _ => rfl, hK _ ?_⟩; clear hK K
          refine wpQuiet_step (fun K hK => ?_); go_simp; refine ⟨_, fun W _ => (by first | exact ⟨rfl, rfl⟩ | rfl), hK _ ?_⟩; clear hK K
          refine wpQuiet_step (fun K hK => ?_); go_simp; refine ⟨_, fun W hW => S9.out W hW, hK _ ?_⟩; clear hK K
          refine wpQuiet_step (fun K hK => ?_); go_simp; refine ⟨_, fun _ _ => rfl, hK _ ?_⟩; clear hK K
          refine wpQuiet_step (fun K hK => ?_); go_simp; refine ⟨_, fun _ _ => rfl, hK _ ?_⟩; clear hK K
          refine wpQuiet_step (fun K hK => ?_); go_simp; refine ⟨_, fun _ _ => rfl, hK _ ?_⟩; clear hK K
          refine wpQuiet_nil ?_
          intro w9 hx9
          have HXE := Lib.hid (HX9.out.trans hx9)
          clear hx9
          go_wp2
          go_ret
          exact ⟨rfl, HXE.out⟩
    · skip
      have HXn := Lib.hid (show AfterH w5 (World.alloc v6 (.cells VD 30)) from Ext.alloc HXv6.out _)
      have HBn := Lib.hid (HLD.out v6)
      have HLn := Lib.hid (show w5.heap.size ≤ v6.heap.size from Ext.size HXv6.out)
      refine wpList_build_dig_g (by rfl) (.tmp 64) rfl VD rfl HVS.out ?_
      go_wp2
      refine ⟨fun _ => HXn.out, ?_⟩
      have HLS := Lib.hid (show (World.alloc v6 (.cells VD 30)).heap.size = v6.heap.size + 1 from by simp)
      obtain ⟨gl, hgl⟩ : ∃ g, v6.heap.size = g := ⟨_, rfl⟩
      rw [hgl] at HBn HLS ⊢
      generalize World.alloc v6 _ = v628 at HXn HBn HLS ⊢
      have HXv628 := Lib.hid HXn.out
      have HBv628 := Lib.hid HBn.out
      have HLG := Lib.hid (show gl < v628.heap.size from by have h := HLS.out; omega)
      clear HXn HBn HLn HLS hgl
      refine plan_one rfl (fun K hK => ?_)
      have HXn := Lib.hid (show AfterH w5 (World.alloc v628 (.cells #[] 30)) from Ext.alloc HXv628.out _)
      have HMn := Lib.hid (show DMine (World.alloc v628 (.cells #[] 30)) v628.heap.size (.slice (some ⟨v628.heap.size, 0, none⟩) 0 0) [] from dmine_empty v628)
      have HSn := Lib.hid (show w5.heap.size ≤ v628.heap.size from Ext.size HXv628.out)
      have HBn := Lib.hid (HBv628.out.ext ((Ext.refl _).alloc (.cells #[] 30)))
      have HLn := Lib.hid (show gl < v628.heap.size from by have h := HLG.out; omega)
      go_wp2
      refine ⟨fun _ => HXn.out, ?_⟩
      obtain ⟨ge, hge⟩ : ∃ g, v628.heap.size = g := ⟨_, rfl⟩
      rw [hge] at HMn HSn HLn ⊢
      generalize World.alloc v628 _ = v62824 at HXn HMn HBn ⊢
      have HXv62824 := Lib.hid HXn.out
      have HMv62824 := Lib.hid HMn.out
      have HSE := Lib.hid HSn.out
      clear HXn HMn HSn hge
      have HBv62824 := Lib.hid HBn.out
      have HNE := Lib.hid (show ge ≠ gl from by have h := HLn.out; omega)
      clear HBn HLn
      refine plan_one rfl (fun K hK => ?_)
      refine wpList_append_drd_g (by rfl) (.tmp 61) (.tmp 62) rfl ge _ [] P rfl HMv62824.out B p k rfl HPL.out (HRD.out.ext HXv62824.out) (by have := HL.out; have := HPL.out; simp; omega) (by have := HMv62824.out.block ge rfl; omega) ?_
      intro v' v6282426 hm' hg' hb'
      rw [List.nil_append] at hm'
      have HXv6282426 := Lib.hid (show AfterH w5 v6282426 from Ext.more HXv62824.out hg' (fun k e => Nat.le_trans HSE.out (HMv62824.out.block k e).1))
      have HMv6282426 := Lib.hid (show DMine v6282426 w5.heap.size v' P from hm'.down HSE.out)
      have HBv6282426 := Lib.hid (drd_keep HBv62824.out hg' (by first | (intro h; injection h with h; exact HNE.out h.symm) | (intro h; have := HNV.out gl h.symm; omega)))
      clear hm' hg' hb'
      go_wp2
      refine ⟨fun _ => HXv6282426.out, ?_⟩
      refine plan_one rfl (fun K hK => ?_)
      refine wpList_append_drd_g (by rfl) (.tmp 63) (.tmp 65) rfl w5.heap.size _ P [d] rfl HMv6282426.out (some ⟨gl, 0, none⟩) 1 1 rfl rfl HBv6282426.out (by have := HL.out; have := HPL.out; simp; omega) (Ext.size HXv6282426.out) ?_
      intro v7 w7 hm7 hg7 hb7
      have HX7 := Lib.hid (show AfterH w5 w7 from Ext.more HXv6282426.out hg7 (fun k e => (HMv6282426.out.block k e).1))
      obtain ⟨B7, c7, rfl, hc7, hr7⟩ := hm7.slice
      have HR7 := Lib.hid hr7
      have HC7 := Lib.hid hc7
      obtain ⟨qs, hqs⟩ : ∃ q, P ++ [d] = q := ⟨_, rfl⟩
      have HQL := Lib.hid (show qs.length = P.length + 1 from by rw [← hqs]; simp)
      rw [hqs] at HR7 HC7 ⊢
      have S7 := Lib.hid (fun (W : World) (h : Ext w7 W) => show Calls Tryd.prog 16 #[.agg VR, .slice R1 t1 k1, .int .i64 (i : Int), .int .i64 (n : Int), .slice B7 qs.length c7] W (fun e w' => e = .returned (.bool false) ∧ AfterH w5 w') from by have h1 := HSI.out W qs B7 c7 ((HX5.out.trans HX7.out).trans h) (HR7.out.ext h) ⟨HC7.out, by have := HPL.out; have := HL.out; have := HQL.out; omega⟩; rw [HNI.out qs (by have := HQL.out; omega)] at h1; exact h1.mono fun _ _ x => ⟨x.1, Ext.trans HX7.out (h.trans x.2)⟩)
      clear hm7 hg7 hb7 hc7 hr7 hqs
      go_wp2
      refine ⟨fun _ => HX7.out, ?_⟩
      refine plan_one rfl (fun K hK => ?_)
      go_wp2_with fail
      refine (S7.out _ (Ext.refl _)).mono ?_
      rintro e w8 ⟨rfl, hx8⟩
      have HX8 := Lib.hid hx8
      clear hx8
      go_wp2
      refine ⟨fun h => absurd h (by decide), ?_⟩
      refine plan_one rfl (fun K hK => ?_)
      go_wp2
      refine ⟨fun h => absurd h (by decide), ?_⟩
      unfold wpPlan
      go_wp2
      have HX9 := Lib.hid (HX5.out.trans HX8.out)
      have HG9 := Lib.hid (WBlk.ext' HG5.out HX8.out)
      have HR9 := Lib.hid (HRD.out.ext HX8.out)
      clear HX7 HR7 HC7 HQL S7
      by_cases hp0 : p = 0
      · have dp : decide ((p : Int) = 0) = true := decide_eq_true (by omega)
        subst hp0
        go_quiet (skip)
        all_goals (go_wp2; go_ret; exact ⟨rfl, HX9.out.drewN _⟩)
      · have dp : decide ((p : Int) = 0) = false := decide_eq_false (by omega)
        obtain ⟨q, rfl⟩ : ∃ q, p = q + 1 := ⟨p - 1, by omega⟩
        clear hp0
        have HTO := Lib.hid (fun W => run_to_dig B (q + 1) k q (by have := HK.out; omega) W)
        have HQ64 := Lib.hid (show q ≤ 1048577 from by have := HL.out; omega)
        have hw1 := w64_pred q HQ64.out
        have hw3 := i64_nat q HQ64.out
        have hq0 : (0 : Int) ≤ (q : Int) := by omega
        have hqk : (q : Int) ≤ (k : Int) := by have := HK.out; omega
        have hw2 := w64_prd q HQ64.out
        have L9 := Lib.hid (fun (W : World) (h : AfterH w8 W) => show (Instr.loadAt 30 (.pointer (some ⟨gx, 0, none⟩))).run Tryd.prog W = .ok (.agg VR) W from HLB.out W gx (WBlk.ext' HG9.out h))
        have T9 := Lib.hid (fun (W : World) (h : AfterH w8 W) => show (Instr.loadAt 35 (.pointer (some ⟨ba, oa + i, none⟩))).run Tryd.prog W = .ok (.slice R1 t1 k1) W from HT1.out W (HX9.out.trans h))
        have HTL := Lib.hid (show (P.take q).length = q from by rw [List.length_take, HPL.out]; omega)
        have S9 := Lib.hid (fun (W : World) (h : AfterH w8 W) => show Calls Tryd.prog 16 #[.agg VR, .slice R1 t1 k1, .int .i64 (i : Int), .int .i64 (n : Int), .slice B q k] W (fun e w' => e = .returned (.bool false) ∧ AfterH w8 w') from by have h1 := HSI.out W (P.take q) B k (HX9.out.trans h) ((HR9.out.take q).ext h) ⟨by have := HTL.out; have := HK.out; omega, by have := HTL.out; have := HL.out; omega⟩; rw [HNI.out (P.take q) (by have := HTL.out; have := HPL.out; omega), HTL.out] at h1; exact h1.mono fun _ _ x => ⟨x.1, Ext.trans h x.2⟩)
        refine wp_region_quiet (C := AfterH w8) (by kernel_rfl) (by kernel_rfl) (show AfterH w8 w8.drew from (Ext.refl w8).drew) ?_
        refine wpQuiet_step (fun K hK => ?_); go_simp; refine ⟨_, fun _ _ => rfl, hK _ ?_⟩; clear hK K
        refine wpQuiet_step (fun K hK => ?_); go_simp; refine ⟨_, fun _ _ => rfl, hK _ ?_⟩; clear hK K
        refine wpQuiet_step (fun K hK => ?_); go_simp; refine ⟨_, fun _ _ => rfl, hK _ ?_⟩; clear hK K
        refine wpQuiet_step (fun K hK => ?_); go_simp; refine ⟨_, fun _ _ => rfl, hK _ ?_⟩; clear hK K
        refine wpQuiet_load_g (by rfl) 30 (.tmp 8) rfl (.agg VR) (fun W hW => L9.out W hW) ?_
        refine wpQuiet_step (fun K hK => ?_); go_simp; refine ⟨_, fun _ _ => rfl, hK _ ?_⟩; clear hK K
        refine wpQuiet_step (fun K hK => ?_); go_simp; refine ⟨_, fun _ _ => rfl, hK _ ?_⟩; clear hK K
        refine wpQuiet_step (fun K hK => ?_); go_simp; refine ⟨_, fun _ _ => rfl, hK _ ?_⟩; clear hK K
        refine wpQuiet_load_g (by rfl) 35 (.tmp 76) rfl (.slice R1 t1 k1) (fun W hW => T9.out W hW) ?_
        refine wpQuiet_step (fun K hK => ?_); go_simp; refine ⟨_, fun _ _ => rfl, hK _ ?_⟩; clear hK K
        refine wpQuiet_step (fun K hK => ?_); go_simp; refine ⟨_, fun _ _ => rfl, hK _ ?_⟩; clear hK K
        refine wpQuiet_step (fun K hK => ?_); go_simp; refine ⟨_, fun _ _ => rfl, hK _ ?_⟩; clear hK K
        refine wpQuiet_step (fun K hK => ?_); go_simp; refine ⟨_, fun _ _ => rfl, hK _ ?_⟩; clear hK K
        refine wpQuiet_step (fun K hK => ?_); go_simp; refine ⟨_, fun _ _ => rfl, hK _ ?_⟩; clear hK K
        refine wpQuiet_step (fun K hK => ?_); go_simp; refine ⟨_, fun _ _ => rfl, hK _ ?_⟩; clear hK K
        refine wpQuiet_step (fun K hK => ?_); go_simp; refine ⟨_, fun _ _ => rfl, hK _ ?_⟩; clear hK K
        refine wpQuiet_step (fun K hK => ?_); go_simp; refine ⟨_, fun W _ => (by first | exact ⟨rfl, rfl⟩ | rfl), hK _ ?_⟩; clear hK K
        refine wpQuiet_step (fun K hK => ?_); go_simp; refine ⟨_, fun W hW => S9.out W hW, hK _ ?_⟩; clear hK K
        refine wpQuiet_step (fun K hK => ?_); go_simp; refine ⟨_, fun _ _ => rfl, hK _ ?_⟩; clear hK K
        refine wpQuiet_step (fun K hK => ?_); go_simp; refine ⟨_, fun _ _ => rfl, hK _ ?_⟩; clear hK K
        refine wpQuiet_step (fun K hK => ?_); go_simp; refine ⟨_, fun _ _ => rfl, hK _ ?_⟩; clear hK K
        refine wpQuiet_nil ?_
        intro w9 hx9
        have HXE := Lib.hid (HX9.out.trans hx9)
        clear hx9
        go_wp2
        go_ret
        exact ⟨rfl, HXE.out⟩
end Go.Proofs.YthbfodmpoheahaaDoor

/-
  What clash of layer 11's laws tells: where two of the things that were digested are unlike and have one digest, it says so. Conditions: under what the document's Of is to do; at most 4096 texts of 2^15 bytes, at most 65536 digests.
-/
namespace Go.Proofs.YthbfodmpoheahaaDoor
open Go.RowKit
open Pol (co Sm)

theorem plan_no {P : Program} {Q : Exit → Act → World → Prop} {C : World → Prop} {F : Nat → Bool} {l : List Oper} {i : Nat} {o : Oper} {π : Plan} {a : Act} {w : World} (ho : l[i]? = some o)
    (h : ∀ K : Act → Prop, (∀ a', wpPlan P l C F Q π a' w → K a') → Region.wanted o (yielded l.toArray a.tmps) = false ∧ K (a.put o.dst undef)) : wpPlan P l C F Q (.yes i π) a w := by
  obtain ⟨h1, h2⟩ := h (fun a' => wpPlan P l C F Q π a' w) (fun _ h => h)
  exact ⟨o, undef, ho, .inr (.inl ⟨h1, rfl⟩), h2⟩
/-- What clash is told of. -/
structure ClashIn (l k : List (List Nat)) (t : List Nat) (i : Int) (ps : List (List Nat)) (A B AT D : Option Addr) (ca cb ct cd : Nat) (w : World) : Prop where
  lr : RRd w A l
  lc : l.length ≤ ca
  ln : l.length ≤ 4096
  ls : ∀ i, i < l.length → (ro l i).length ≤ 32768
  kr : RRd w B k
  kc : k.length ≤ cb
  kn : k.length ≤ 4096
  ks : ∀ i, i < k.length → (ro k i).length ≤ 32768
  tr : Rd w AT t
  tc : t.length ≤ ct
  ts : t.length ≤ 32768
  pr : DRd w D ps
  pc : ps.length ≤ cd
  pn : ps.length ≤ 65536
  ib : i < 9223372036854775808
/-- What it tells. -/
def ClashS (l k : List (List Nat)) (t : List Nat) (i : Nat) (ps : List (List Nat)) (w : World) (e : Ending) (w' : World) : Prop :=
  ∃ b, e = .returned (.bool b) ∧ ((∃ x ∈ digd l k t i ps, ∃ y ∈ digd l k t i ps, sha x = sha y ∧ x ≠ y) → b = true) ∧ Ext w w'
set_option maxHeartbeats 6400000 in
set_option maxRecDepth 100000 in
theorem law11_clash (R : RefOf) (l k : List (List Nat)) (t : List Nat) (i : Int) (ps : List (List Nat)) (A B AT D : Option Addr) (ca cb ct cd : Nat) (w : World) (H : ClashIn l k t i ps A B AT D ca cb ct cd w) :
    Calls Tryd.prog 19 #[.slice A l.length ca, .slice B k.length cb, .slice AT t.length ct, .int .i64 i, .slice D ps.length cd] w (ClashS l k t i.toNat ps w) := by
  have HH := Lib.hid H
  have HP := Lib.hid (law11_path R l.length l.length i t ps AT D ct cd w (Nat.le_refl _) (by have := H.ln; omega) H.ib H.tr (by have := H.ts; omega) H.pr H.pc (by have := H.pn; omega))
  have HIL := Lib.hid (fun W (h : Ext w W) => law11_inner R 4096 l A ca W H.ln (H.lr.ext h) H.lc H.ln H.ls)
  have HIK := Lib.hid (fun W (h : Ext w W) => law11_inner R 4096 k B cb W H.kn (H.kr.ext h) H.kc H.kn H.ks)
  have HSH := Lib.hid (digd_short l k t i.toNat ps H.ls H.ks H.ts H.pr.1)
  have HFW := Lib.hid (show (digd l k t i.toNat ps).length ≤ 200000 from by have := digd_few l k t i.toNat ps; have := H.ln; have := H.kn; have := H.pn; omega)
  have HNC := Lib.hid (no_clash (al := digd l k t i.toNat ps))
  have HDG := Lib.hid (show digd l k t i.toNat ps = (mpath sha t l.length i.toNat ps).2 ++ minn sha l ++ minn sha k from rfl)
  have HY32 := Lib.hid (mpath_32 t l.length i.toNat ps)
  unfold PathS at HP
  unfold InnerS at HIL HIK
  unfold ClashS
  obtain ⟨n, hn⟩ : ∃ n, l.length = n := ⟨_, rfl⟩
  obtain ⟨nk, hnk⟩ : ∃ n, k.length = n := ⟨_, rfl⟩
  obtain ⟨nt, hnt⟩ : ∃ n, t.length = n := ⟨_, rfl⟩
  obtain ⟨np, hnp⟩ : ∃ n, ps.length = n := ⟨_, rfl⟩
  rw [hn] at HP HIL HDG HY32 ⊢
  rw [hnk] at HIK ⊢
  rw [hnt] at HP ⊢
  rw [hnp] at HP ⊢
  obtain ⟨al, hal⟩ : ∃ a, digd l k t i.toNat ps = a := ⟨_, rfl⟩
  rw [hal] at HSH HFW HNC HDG ⊢
  obtain ⟨r1, hr1⟩ : ∃ r, (mpath sha t n i.toNat ps).2 = r := ⟨_, rfl⟩
  obtain ⟨y, hy⟩ : ∃ r, (mpath sha t n i.toNat ps).1 = r := ⟨_, rfl⟩
  obtain ⟨r2, hr2⟩ : ∃ r, minn sha l = r := ⟨_, rfl⟩
  obtain ⟨r3, hr3⟩ : ∃ r, minn sha k = r := ⟨_, rfl⟩
  rw [hr1] at HP HDG
  rw [hy] at HP HY32
  rw [hr2] at HIL HDG
  rw [hr3] at HIK HDG
  have HLN := Lib.hid (show r1.length + r2.length ≤ 1048576 ∧ (r1 ++ r2).length + r3.length ≤ 1048576 from by have h := HFW.out; rw [HDG.out, List.length_append, List.length_append] at h; rw [List.length_append]; omega)
  have hz := zero_digest.1
  have HZ32 := Lib.hid (fun (_ : Unit) => show (bt 32 fun _ => 0).size = 32 from bt_size _ _)
  obtain ⟨Z, hZ⟩ : ∃ Z, (bt 32 fun _ => 0) = Z := ⟨_, rfl⟩
  rw [hZ] at hz HZ32
  have HVY := Lib.hid (bt_dgc y)
  unfold dgv at HP
  obtain ⟨VY, hVY⟩ : ∃ V, bt 32 (co y) = V := ⟨_, rfl⟩
  rw [hVY] at HP HVY
  have HIY := Lib.hid HVY.out.info
  have HOY := Lib.hid HVY.out.one
  have HZY := Lib.hid (show Z.size = VY.size from by rw [HVY.out.1]; exact HZ32.out ())
  clear hn hnk hnt hnp hal hr1 hy hr2 hr3 hZ hVY H
  go_enter Tryd.func19, Tryd.ntmps19
  go_wp2_with fail
  refine HP.out.mono ?_
  rintro e w1 ⟨v1, rfl, hm1, hx1⟩
  have HX1 := Lib.hid hx1
  have HM1 := Lib.hid hm1
  clear hm1 hx1
  obtain ⟨gx, hgx⟩ : ∃ g, w1.heap.size = g := ⟨_, rfl⟩
  have HGX := Lib.hid (show (w1.alloc (.cells Z 30)).heap[gx]? = some (.cells Z 30 (0, 0)) from by rw [← hgx]; exact heap_alloc_new _ _)
  have HX12 := Lib.hid (show Ext w1 ((w1.alloc (.cells Z 30)).setRow gx VY) from Ext.setRow ((Ext.refl w1).alloc _) (by rw [← hgx]; exact Nat.le_refl _) VY)
  go_wp2_with (with_reducible refine wpList_store_all rfl 30 (.tmp 11) (.tmp 22) rfl gx Z VY rfl rfl HGX.out HIY.out HZY.out HOY.out ?_)
  generalize (w1.alloc (.cells Z 30)).setRow gx VY = w2 at HX12 ⊢
  clear hgx HGX
  have HX2 := Lib.hid (HX1.out.trans HX12.out)
  have HM2 := Lib.hid (HM1.out.ext HX12.out)
  refine (HIL.out _ HX2.out).mono ?_
  rintro e w3 ⟨v3, rfl, hm3, hx3⟩
  have HX3 := Lib.hid (HX2.out.trans hx3)
  have HM3 := Lib.hid hm3
  have HM23 := Lib.hid (HM2.out.ext hx3)
  have HV2 := Lib.hid (show ∀ q, v1.ownBlock = some q → q < w2.heap.size from fun q e => (HM2.out.block q e).2)
  clear hm3 hx3
  go_wp2_with (at_builtin; go_loud (refine wpList_append_rowsN rfl (.tmp 24) (.tmp 26) rfl w.heap.size w2.heap.size v1 v3 r1 r2 rfl rfl HM23.out HM3.out HV2.out HX2.out.size HLN.out.1 HX3.out.size ?_; intro v4 w4 hm4 hg4 hb4; have HM4 := Lib.hid hm4; have HX4 := Lib.hid (HX3.out.more hg4 (fun q e => (HM2.out.block q e).1)); clear hm4 hg4 hb4))
  refine (HIK.out _ HX4.out).mono ?_
  rintro e w5 ⟨v5, rfl, hm5, hx5⟩
  have HX5 := Lib.hid (HX4.out.trans hx5)
  have HM5 := Lib.hid hm5
  have HM45 := Lib.hid (HM4.out.ext hx5)
  have HV4 := Lib.hid (show ∀ q, v4.ownBlock = some q → q < w4.heap.size from fun q e => (HM4.out.block q e).2)
  clear hm5 hx5
  go_wp2_with (at_builtin; go_loud (refine wpList_append_rowsN rfl (.tmp 27) (.tmp 29) rfl w.heap.size w4.heap.size v4 v5 (r1 ++ r2) r3 rfl rfl HM45.out HM5.out HV4.out HX4.out.size HLN.out.2 HX5.out.size ?_; intro v6 w6 hm6 hg6 hb6; rw [← HDG.out] at hm6; obtain ⟨B6, c6, rfl, hc6, hr6⟩ := hm6.slice; have HR6 := Lib.hid hr6; have HX6 := Lib.hid (HX5.out.more hg6 (fun q e => (HM4.out.block q e).1)); clear hm6 hg6 hb6 hc6 hr6))
  have HOF := Lib.hid (fun j (hj : j < al.length) A c W (h : Rd W A (ro al j)) => (R (ro al j) A c W h (by have := HSH.out j hj; omega)).mono fun _ _ h => h.tells)
  have HLI := Lib.hid (fun a b (_ : a < al.length) A B W (ha : RRd W A [ro al a]) (hb : RRd W B [ro al b]) (hs : (ro al a).length ≤ 65536) => show Calls Tryd.prog 18 #[.slice A 1 1, .slice B 1 1] W (Hands (.bool (decide ([ro al a] = [ro al b]))) W) from lists9 [ro al a] [ro al b] A B 1 1 W ha hb (by simp) (fun q hq => by
    have hq0 : q = 0 := by simpa using hq
    subst hq0
    exact Nat.le_trans hs (by decide)))
  obtain ⟨N, hN⟩ : ∃ N, al.length = N := ⟨_, rfl⟩
  have HNN := Lib.hid hN
  rw [hN] at HSH HFW HNC HOF HLI ⊢
  clear hN HP HIL HIK
  have HNB := Lib.hid HFW.out
  go_loopg [33] N (fun g s wx => ∃ a : Nat, a + g = N ∧ s = .int .i64 (a : Int) ∧ Ext w6 wx ∧ ∀ a', a' < a → ∀ b, b < a' → ¬ Bad al a' b)
  case atStart => exact ⟨0, by omega, rfl, Ext.refl _, fun a' h => by omega⟩
  case round =>
    obtain ⟨a, hag, rfl, hx, hin⟩ := hrel
    have HIN := Lib.hid hin
    have HX := Lib.hid hx
    have HAG := Lib.hid hag
    clear hx hin
    cases gk with
    | zero =>
      obtain rfl : a = N := by omega
      have HNO := Lib.hid (HNC.out HIN.out)
      clear hag
      go_wp2
      go_ret
      exact ⟨false, rfl, fun h => absurd h HNO.out, HX6.out.trans HX.out⟩
    | succ g =>
      have ha : a < N := by omega
      have haI : (a : Int) < (N : Int) := by omega
      have haB : a ≤ 1048577 := by have := HNB.out; omega
      have HA := Lib.hid ha
      have ew := w64_succ a haB
      have ew2 : IntKind.i64.wrap ((a : Int) + 1) = ((a + 1 : Nat) : Int) := by rw [IntKind.wrap_i64]; omega
      have HEW := Lib.hid (And.intro ew ew2)
      clear ew ew2 hag haB ha
      go_wp2
      go_loopg [37] a (fun g2 s wx => ∃ b : Nat, b + g2 = a ∧ s = .int .i64 (b : Int) ∧ Ext w6 wx ∧ ∀ b', b' < b → ¬ Bad al a b')
      case atStart => exact ⟨0, by omega, rfl, HX.out, fun b' h => by omega⟩
      case round =>
        obtain ⟨b, hbg, rfl, hx, hinb⟩ := hrel
        have HINB := Lib.hid hinb
        have HXB := Lib.hid hx
        have HBG := Lib.hid hbg
        clear hx hinb
        cases gk with
        | zero =>
          obtain rfl : b = a := by omega
          have HNX := Lib.hid (show ∀ a', a' < b + 1 → ∀ b', b' < a' → ¬ Bad al a' b' from fun a' h b' h2 => by
            by_cases e : a' = b
            · rw [e] at h2 ⊢; exact HINB.out b' h2
            · exact HIN.out a' (by omega) b' h2)
          have e1 := HEW.out.1
          have e2 := HEW.out.2
          clear hbg
          go_wp2
          go_roundg g
          case measure => omega
          case rel => exact ⟨b + 1, by have := HAG.out; omega, by first | rfl | (congr 1; omega) | go_num, HXB.out, HNX.out⟩
        | succ g2 =>
          have hb : b < a := by omega
          have hbI : (b : Int) < (a : Int) := by omega
          have hbN : (b : Int) < (N : Int) := by omega
          have HB := Lib.hid (show b < N from by have := HA.out; omega)
          have hbB : b ≤ 1048577 := by have := HNB.out; have := HB.out; omega
          have HEB := Lib.hid (And.intro (w64_succ b hbB) (show IntKind.i64.wrap ((b : Int) + 1) = ((b + 1 : Nat) : Int) from by rw [IntKind.wrap_i64]; omega))
          obtain ⟨b1, o1, R1, c1, rfl, hc1, hl1, hr1⟩ := HR6.out a (by rw [HNN.out]; exact HA.out)
          obtain ⟨b2, o2, R2, c2, hE, hc2, hl2, hr2⟩ := HR6.out b (by rw [HNN.out]; exact HB.out)
          injection hE with hE
          injection hE with hE1 hE2
          subst hE1; subst hE2
          have HLA := Lib.hid (fun (W : World) (h : Ext w6 W) => run_load_u8s W _ _ ((h.below.cell (p := ⟨b1, o1 + a, none⟩) (block_lt_of_cell hc1)).trans hc1))
          have HLB := Lib.hid (fun (W : World) (h : Ext w6 W) => run_load_u8s W _ _ ((h.below.cell (p := ⟨b1, o1 + b, none⟩) (block_lt_of_cell hc2)).trans hc2))
          have HOA := Lib.hid (fun W (h : Ext w6 W) => HOF.out a HA.out R1 c1 W (hr1.ext h))
          have HOB := Lib.hid (fun W (h : Ext w6 W) => HOF.out b HB.out R2 c2 W (hr2.ext h))
          have HSA := Lib.hid (fun W (h : Ext w6 W) => show Sl W (.slice R1 (ro al a).length c1) (ro al a) from ⟨R1, c1, rfl, hl1, hr1.ext h⟩)
          have HSB := Lib.hid (fun W (h : Ext w6 W) => show Sl W (.slice R2 (ro al b).length c2) (ro al b) from ⟨R2, c2, rfl, hl2, hr2.ext h⟩)
          have HLS := Lib.hid (fun A B W ha hb => HLI.out a b HA.out A B W ha hb (HSH.out a HA.out))
          have HBD := Lib.hid (show ∀ (_ : ¬ (sha (ro al a) = sha (ro al b) ∧ ro al a ≠ ro al b)), ∀ b', b' < b + 1 → ¬ Bad al a b' from fun hnb b' h => by
            by_cases e : b' = b
            · rw [e]; exact hnb
            · exact HINB.out b' (by omega))
          have HQ := Lib.hid (fun W => run_eq_dgc (bt_dgc (sha (ro al a))) (bt_dgc (sha (ro al b))) (sha_len _) (sha_len _) (sha_sm _) (sha_sm _) W)
          obtain ⟨x, hx⟩ : ∃ x, ro al a = x := ⟨_, rfl⟩
          obtain ⟨z, hz2⟩ : ∃ x, ro al b = x := ⟨_, rfl⟩
          rw [hx] at HLA HOA HSA HLS HBD HQ
          rw [hz2] at HLB HOB HSB HLS HBD HQ
          obtain ⟨bb, hbb⟩ : ∃ b, decide ([x] = [z]) = b := ⟨_, rfl⟩
          have HXZ := Lib.hid (fun (_ : Unit) => hbb)
          rw [hbb] at HLS
          obtain ⟨nx, hnx⟩ : ∃ n, x.length = n := ⟨_, rfl⟩
          obtain ⟨nz, hnz⟩ : ∃ n, z.length = n := ⟨_, rfl⟩
          rw [hnx] at HLA HOA HSA
          rw [hnz] at HLB HOB HSB
          unfold dgv at HOA HOB
          obtain ⟨DX, hDX⟩ : ∃ d, sha x = d := ⟨_, rfl⟩
          obtain ⟨DZ, hDZ⟩ : ∃ d, sha z = d := ⟨_, rfl⟩
          rw [hDX] at HOA HBD HQ
          rw [hDZ] at HOB HBD HQ
          obtain ⟨VX, hVX⟩ : ∃ V, bt 32 (co DX) = V := ⟨_, rfl⟩
          obtain ⟨VZ, hVZ⟩ : ∃ V, bt 32 (co DZ) = V := ⟨_, rfl⟩
          rw [hVX] at HOA HQ
          rw [hVZ] at HOB HQ
          clear hbb hb hbB hbg hc1 hl1 hr1 hc2 hl2 hr2 hx hz2 hnx hnz hDX hDZ hVX hVZ
          go_wp2
          obtain ⟨u, hu⟩ : ∃ u, wr.drew = u := ⟨_, rfl⟩
          have HXU := Lib.hid (show Ext w6 u from by rw [← hu]; exact HXB.out.drew)
          by_cases hd : DX = DZ
          · have hq := HQ.out
            rw [decide_eq_true hd] at hq
            refine wp_region_plan (AfterH w6) [0, 1, 2, 3, 4, 5, 6, 7, 8, 9, 10, 11, 12, 13, 14, 15, 16, 17, 18, 19, 20, 21, 22] (.yes 0 (.yes 1 (.yes 2 (.yes 3 (.yes 5 (.yes 6 (.yes 7 (.yes 8 (.one 4 (.one 9 (.yes 10 (.yes 11 (.yes 12 (.yes 13 (.yes 14 (.yes 15 (.yes 17 (.yes 18 (.yes 19 (.yes 20 (.two 16 (.one 21 (.one 22 (.one 23 (.one 24 .done)))) 21 (.one 16 (.one 22 (.one 23 (.one 24 .done))))))))))))))))))))))))) (by kernel_rfl) (fun c a a' w e h => ⟨e ▸ h.1, h.2⟩) (by kernel_rfl) (by rw [hu]; exact HXU.out) ?_
            rw [hu]
            clear hu
            refine plan_yes rfl (fun K hK => ?_); go_simp; refine ⟨_, fun _ _ => rfl, hK _ ?_⟩; clear hK K
            refine plan_yes rfl (fun K hK => ?_); go_simp; refine ⟨_, fun _ _ => rfl, hK _ ?_⟩; clear hK K
            refine plan_yes rfl (fun K hK => ?_); go_simp; refine ⟨_, fun _ _ => rfl, hK _ ?_⟩; clear hK K
            refine plan_load rfl 35 (.tmp 42) rfl (.slice R1 nx c1) (by rfl) (fun W hW => HLA.out W hW) ?_
            refine plan_yes rfl (fun K hK => ?_); go_simp; refine ⟨_, fun _ _ => rfl, hK _ ?_⟩; clear hK K
            refine plan_yes rfl (fun K hK => ?_); go_simp; refine ⟨_, fun _ _ => rfl, hK _ ?_⟩; clear hK K
            refine plan_yes rfl (fun K hK => ?_); go_simp; refine ⟨_, fun _ _ => rfl, hK _ ?_⟩; clear hK K
            refine plan_load rfl 35 (.tmp 47) rfl (.slice R2 nz c2) (by rfl) (fun W hW => HLB.out W hW) ?_
            refine plan_one rfl (fun K hK => ?_)
            go_wp2_with fail
            refine (HOA.out _ HXU.out).mono ?_
            rintro e u1 ⟨rfl, hx1⟩
            have HU1 := Lib.hid (HXU.out.trans hx1)
            clear hx1
            go_wp2
            refine ⟨fun _ => HU1.out, ?_⟩
            refine plan_one rfl (fun K hK => ?_)
            go_wp2_with fail
            refine (HOB.out _ HU1.out).mono ?_
            rintro e u2 ⟨rfl, hx2⟩
            have HU2 := Lib.hid (HU1.out.trans hx2)
            clear hx2
            go_wp2
            refine ⟨fun _ => HU2.out, ?_⟩
            refine plan_yes rfl (fun K hK => ?_); go_simp; refine ⟨_, fun _ _ => rfl, hK _ ?_⟩; clear hK K
            refine plan_yes rfl (fun K hK => ?_); go_simp; refine ⟨_, fun _ _ => rfl, hK _ ?_⟩; clear hK K
            refine plan_yes rfl (fun K hK => ?_); go_simp; refine ⟨_, fun _ _ => rfl, hK _ ?_⟩; clear hK K
            refine plan_yes rfl (fun K hK => ?_); go_simp; refine ⟨_, fun _ _ => rfl, hK _ ?_⟩; clear hK K
            refine plan_yes rfl (fun K hK => ?_); go_simp; refine ⟨_, fun _ _ => rfl, hK _ ?_⟩; clear hK K
            refine plan_load rfl 35 (.tmp 54) rfl (.slice R1 nx c1) (by rfl) (fun W hW => HLA.out W hW) ?_
            refine plan_yes rfl (fun K hK => ?_); go_simp; refine ⟨_, fun _ _ => rfl, hK _ ?_⟩; clear hK K
            refine plan_yes rfl (fun K hK => ?_); go_simp; refine ⟨_, fun _ _ => rfl, hK _ ?_⟩; clear hK K
            refine plan_yes rfl (fun K hK => ?_); go_simp; refine ⟨_, fun _ _ => rfl, hK _ ?_⟩; clear hK K
            refine plan_load rfl 35 (.tmp 59) rfl (.slice R2 nz c2) (by rfl) (fun W hW => HLB.out W hW) ?_
            refine plan_two rfl rfl (fun K hK => ?_) (fun K hK => ?_)
            · skip
              have HQga := Lib.hid (show RRd (u2.alloc (.cells #[.slice R1 nx c1] 35)) (some ⟨u2.heap.size, 0, none⟩) [x] from rrd_lit u2 [.slice R1 nx c1] [x] (rowsV_one (HSA.out _ HU2.out)))
              have HXu3 := Lib.hid (show Ext w6 (u2.alloc (.cells #[.slice R1 nx c1] 35)) from HU2.out.alloc _)
              go_wp2
              refine ⟨by first | exact HXu3.out | exact fun _ => HXu3.out, ?_⟩
              obtain ⟨ga, hga⟩ : ∃ g, u2.heap.size = g := ⟨_, rfl⟩
              rw [hga] at HQga ⊢
              generalize u2.alloc (.cells #[.slice R1 nx c1] 35) = u3 at HQga HXu3 ⊢
              clear hga
              refine plan_one rfl (fun K hK => ?_)
              have HKga := Lib.hid (HQga.out.ext ((Ext.refl u3).alloc (.cells #[.slice R2 nz c2] 35)))
              have HQgb := Lib.hid (show RRd (u3.alloc (.cells #[.slice R2 nz c2] 35)) (some ⟨u3.heap.size, 0, none⟩) [z] from rrd_lit u3 [.slice R2 nz c2] [z] (rowsV_one (HSB.out _ HXu3.out)))
              have HXu4 := Lib.hid (show Ext w6 (u3.alloc (.cells #[.slice R2 nz c2] 35)) from HXu3.out.alloc _)
              go_wp2
              refine ⟨by first | exact HXu4.out | exact fun _ => HXu4.out, ?_⟩
              obtain ⟨gb, hgb⟩ : ∃ g, u3.heap.size = g := ⟨_, rfl⟩
              rw [hgb] at HQgb ⊢
              generalize u3.alloc (.cells #[.slice R2 nz c2] 35) = u4 at HQgb HKga HXu4 ⊢
              clear hgb
              refine plan_one rfl (fun K hK => ?_)
              go_wp2_with fail
              refine (HLS.out (some ⟨ga, 0, none⟩) (some ⟨gb, 0, none⟩) u4 HKga.out HQgb.out).mono ?_
              rintro e u5 ⟨rfl, q5, rfl⟩
              have HXu5 := Lib.hid (show Ext w6 (u4.drewN q5) from HXu4.out.drewN q5)
              go_wp2
              refine ⟨by first | exact HXu5.out | exact fun _ => HXu5.out, ?_⟩
              generalize u4.drewN q5 = u5 at HXu5 ⊢
              cases bb with
              | true =>
                have hxz : x = z := by have h := of_decide_eq_true (HXZ.out ()); injection h
                have HNX := Lib.hid (HBD.out (fun h => h.2 hxz))
                have e1 := HEB.out.1
                have e2 := HEB.out.2
                clear hxz
                refine plan_one rfl (fun K hK => ?_)
                go_wp2
                refine ⟨fun h => absurd h (by decide), ?_⟩
                refine plan_one rfl (fun K hK => ?_)
                go_wp2
                refine ⟨fun h => absurd h (by decide), ?_⟩
                unfold wpPlan
                go_wp2
                go_roundg g2
                case measure => omega
                case rel => exact ⟨b + 1, by have := HBG.out; omega, by first | rfl | (congr 1; omega) | go_num, HXu5.out, HNX.out⟩
              | false =>
                refine plan_one rfl (fun K hK => ?_)
                go_wp2
                refine ⟨fun h => absurd h (by decide), ?_⟩
                refine plan_one rfl (fun K hK => ?_)
                go_wp2
                refine ⟨fun h => absurd h (by decide), ?_⟩
                unfold wpPlan
                go_wp2
                go_ret
                exact ⟨true, rfl, fun _ => rfl, HX6.out.trans HXu5.out⟩
            · skip
              have HQgb := Lib.hid (show RRd (u2.alloc (.cells #[.slice R2 nz c2] 35)) (some ⟨u2.heap.size, 0, none⟩) [z] from rrd_lit u2 [.slice R2 nz c2] [z] (rowsV_one (HSB.out _ HU2.out)))
              have HXu3 := Lib.hid (show Ext w6 (u2.alloc (.cells #[.slice R2 nz c2] 35)) from HU2.out.alloc _)
              go_wp2
              refine ⟨by first | exact HXu3.out | exact fun _ => HXu3.out, ?_⟩
              obtain ⟨gb, hgb⟩ : ∃ g, u2.heap.size = g := ⟨_, rfl⟩
              rw [hgb] at HQgb ⊢
              generalize u2.alloc (.cells #[.slice R2 nz c2] 35) = u3 at HQgb HXu3 ⊢
              clear hgb
              refine plan_one rfl (fun K hK => ?_)
              have HKgb := Lib.hid (HQgb.out.ext ((Ext.refl u3).alloc (.cells #[.slice R1 nx c1] 35)))
              have HQga := Lib.hid (show RRd (u3.alloc (.cells #[.slice R1 nx c1] 35)) (some ⟨u3.heap.size, 0, none⟩) [x] from rrd_lit u3 [.slice R1 nx c1] [x] (rowsV_one (HSA.out _ HXu3.out)))
              have HXu4 := Lib.hid (show Ext w6 (u3.alloc (.cells #[.slice R1 nx c1] 35)) from HXu3.out.alloc _)
              go_wp2
              refine ⟨by first | exact HXu4.out | exact fun _ => HXu4.out, ?_⟩
              obtain ⟨ga, hga⟩ : ∃ g, u3.heap.size = g := ⟨_, rfl⟩
              rw [hga] at HQga ⊢
              generalize u3.alloc (.cells #[.slice R1 nx c1] 35) = u4 at HQga HKgb HXu4 ⊢
              clear hga
              refine plan_one rfl (fun K hK => ?_)
              go_wp2_with fail
              refine (HLS.out (some ⟨ga, 0, none⟩) (some ⟨gb, 0, none⟩) u4 HQga.out HKgb.out).mono ?_
              rintro e u5 ⟨rfl, q5, rfl⟩
              have HXu5 := Lib.hid (show Ext w6 (u4.drewN q5) from HXu4.out.drewN q5)
              go_wp2
              refine ⟨by first | exact HXu5.out | exact fun _ => HXu5.out, ?_⟩
              generalize u4.drewN q5 = u5 at HXu5 ⊢
              cases bb with
              | true =>
                have hxz : x = z := by have h := of_decide_eq_true (HXZ.out ()); injection h
                have HNX := Lib.hid (HBD.out (fun h => h.2 hxz))
                have e1 := HEB.out.1
                have e2 := HEB.out.2
                clear hxz
                refine plan_one rfl (fun K hK => ?_)
                go_wp2
                refine ⟨fun h => absurd h (by decide), ?_⟩
                refine plan_one rfl (fun K hK => ?_)
                go_wp2
                refine ⟨fun h => absurd h (by decide), ?_⟩
                unfold wpPlan
                go_wp2
                go_roundg g2
                case measure => omega
                case rel => exact ⟨b + 1, by have := HBG.out; omega, by first | rfl | (congr 1; omega) | go_num, HXu5.out, HNX.out⟩
              | false =>
                refine plan_one rfl (fun K hK => ?_)
                go_wp2
                refine ⟨fun h => absurd h (by decide), ?_⟩
                refine plan_one rfl (fun K hK => ?_)
                go_wp2
                refine ⟨fun h => absurd h (by decide), ?_⟩
                unfold wpPlan
                go_wp2
                go_ret
                exact ⟨true, rfl, fun _ => rfl, HX6.out.trans HXu5.out⟩
          · have hq := HQ.out
            rw [decide_eq_false hd] at hq
            refine wp_region_plan (AfterH w6) [0, 1, 2, 3, 4, 5, 6, 7, 8, 9, 10, 11, 12, 13, 14, 15, 16, 17, 18, 19, 20, 21, 22, 23] (.yes 0 (.yes 1 (.yes 2 (.yes 3 (.yes 5 (.yes 6 (.yes 7 (.yes 8 (.one 4 (.one 9 (.yes 10 (.yes 11 (.yes 12 (.yes 13 (.yes 14 (.yes 15 (.yes 16 (.yes 17 (.yes 18 (.yes 19 (.yes 20 (.yes 21 (.yes 22 (.yes 23 (.one 24 .done))))))))))))))))))))))))) (by kernel_rfl) (fun c a a' w e h => ⟨e ▸ h.1, h.2⟩) (by kernel_rfl) (by rw [hu]; exact HXU.out) ?_
            rw [hu]
            clear hu
            refine plan_yes rfl (fun K hK => ?_); go_simp; refine ⟨_, fun _ _ => rfl, hK _ ?_⟩; clear hK K
            refine plan_yes rfl (fun K hK => ?_); go_simp; refine ⟨_, fun _ _ => rfl, hK _ ?_⟩; clear hK K
            refine plan_yes rfl (fun K hK => ?_); go_simp; refine ⟨_, fun _ _ => rfl, hK _ ?_⟩; clear hK K
            refine plan_load rfl 35 (.tmp 42) rfl (.slice R1 nx c1) (by rfl) (fun W hW => HLA.out W hW) ?_
            refine plan_yes rfl (fun K hK => ?_); go_simp; refine ⟨_, fun _ _ => rfl, hK _ ?_⟩; clear hK K
            refine plan_yes rfl (fun K hK => ?_); go_simp; refine ⟨_, fun _ _ => rfl, hK _ ?_⟩; clear hK K
            refine plan_yes rfl (fun K hK => ?_); go_simp; refine ⟨_, fun _ _ => rfl, hK _ ?_⟩; clear hK K
            refine plan_load rfl 35 (.tmp 47) rfl (.slice R2 nz c2) (by rfl) (fun W hW => HLB.out W hW) ?_
            refine plan_one rfl (fun K hK => ?_)
            go_wp2_with fail
            refine (HOA.out _ HXU.out).mono ?_
            rintro e u1 ⟨rfl, hx1⟩
            have HU1 := Lib.hid (HXU.out.trans hx1)
            clear hx1
            go_wp2
            refine ⟨fun _ => HU1.out, ?_⟩
            refine plan_one rfl (fun K hK => ?_)
            go_wp2_with fail
            refine (HOB.out _ HU1.out).mono ?_
            rintro e u2 ⟨rfl, hx2⟩
            have HU2 := Lib.hid (HU1.out.trans hx2)
            clear hx2
            go_wp2
            refine ⟨fun _ => HU2.out, ?_⟩
            refine plan_yes rfl (fun K hK => ?_); go_simp; refine ⟨_, fun _ _ => rfl, hK _ ?_⟩; clear hK K
            refine plan_yes rfl (fun K hK => ?_); go_simp; refine ⟨_, fun _ _ => rfl, hK _ ?_⟩; clear hK K
            refine plan_no rfl (fun K hK => ?_); go_simp; refine hK _ ?_; clear hK K
            refine plan_no rfl (fun K hK => ?_); go_simp; refine hK _ ?_; clear hK K
            refine plan_no rfl (fun K hK => ?_); go_simp; refine hK _ ?_; clear hK K
            refine plan_no rfl (fun K hK => ?_); go_simp; refine hK _ ?_; clear hK K
            refine plan_no rfl (fun K hK => ?_); go_simp; refine hK _ ?_; clear hK K
            refine plan_no rfl (fun K hK => ?_); go_simp; refine hK _ ?_; clear hK K
            refine plan_no rfl (fun K hK => ?_); go_simp; refine hK _ ?_; clear hK K
            refine plan_no rfl (fun K hK => ?_); go_simp; refine hK _ ?_; clear hK K
            refine plan_no rfl (fun K hK => ?_); go_simp; refine hK _ ?_; clear hK K
            refine plan_no rfl (fun K hK => ?_); go_simp; refine hK _ ?_; clear hK K
            refine plan_no rfl (fun K hK => ?_); go_simp; refine hK _ ?_; clear hK K
            refine plan_no rfl (fun K hK => ?_); go_simp; refine hK _ ?_; clear hK K
            refine plan_one rfl (fun K hK => ?_)
            go_wp2
            refine ⟨fun h => absurd h (by decide), ?_⟩
            unfold wpPlan
            have HNX := Lib.hid (HBD.out (fun h => hd h.1))
            have e1 := HEB.out.1
            have e2 := HEB.out.2
            go_wp2
            go_roundg g2
            case measure => omega
            case rel => exact ⟨b + 1, by have := HBG.out; omega, by first | rfl | (congr 1; omega) | go_num, HU2.out, HNX.out⟩
end Go.Proofs.YthbfodmpoheahaaDoor

/-
  The law MerkleChanges, walked, under what the functions of layers 10 and 11 and the document's Of are to do. Conditions: none.
-/
namespace Go.Proofs.YthbfodmpoheahaaDoor
open Go.RowKit
open Pol (co Sm)

theorem ro_set (rows : List (List Nat)) (k i : Nat) (t : List Nat) (hk : k < rows.length) : ro (rows.set k t) i = if i = k then t else ro rows i := by
  unfold ro
  rw [List.getElem?_set]
  by_cases e : k = i
  · subst e
    rw [if_pos rfl, if_pos hk, if_pos rfl]
    rfl
  · rw [if_neg e, if_neg (fun h => e h.symm)]
/-- A row of an own slice is put anew. -/
theorem rrd_put {w : World} {base g c k : Nat} {AT : Option Addr} {t : List Nat} {ct : Nat} {rows : List (List Nat)} (h : MineR w base (.slice (some ⟨g, 0, none⟩) rows.length c) rows) (hk : k < rows.length) (ht : Rd w AT t) (htc : t.length ≤ ct)
    (hf : ∀ b o, AT = some ⟨b, o, none⟩ → 0 < t.length → b ≠ g) : RRd (w.setCell ⟨g, k, none⟩ (.slice AT t.length ct)) (some ⟨g, 0, none⟩) (rows.set k t) := by
  obtain ⟨vs, hown, hv, hfar⟩ := h.has
  have hgr := grown_set w g k (.slice AT t.length ct)
  rcases hown.2 with ⟨e, _⟩ | ⟨g', cap, cur, e, _, hg, hnc, _, _, htake⟩
  · cases e
  · injection e with e1 e2 e3
    injection e1 with e1
    injection e1 with e1 _
    subst e1; subst e3
    intro i hi
    rw [List.length_set] at hi
    rw [ro_set rows k i t hk]
    by_cases hik : i = k
    · subst hik
      rw [if_pos rfl]
      refine ⟨g, 0, AT, ct, rfl, ?_, htc, ht.keep hgr (fun b o e h0 => fun e' => hf b o e h0 (by injection e'))⟩
      rw [Nat.zero_add]
      exact World.cell?_setCell_same' _ _ _ (by
        have hc : w.cell? ⟨g, i, none⟩ = vs[i]? := by
          rw [cell_of_row w g i cur _ _ hg, ← htake, List.getElem?_take, if_pos (by omega)]
          simp
        rw [hc]
        obtain ⟨B, c', h1, _⟩ := hv.2 i hi
        rw [h1]
        rfl)
    · rw [if_neg hik]
      obtain ⟨B, c', h1, h2, h3⟩ := hv.2 i hi
      refine ⟨g, 0, B, c', rfl, ?_, h2, h3.keep hgr (fun b o e h0 => hfar i b o _ c' (by rw [h1, e]) h0)⟩
      rw [Nat.zero_add]
      have hc : w.cell? ⟨g, i, none⟩ = some (.slice B (ro rows i).length c') := by
        rw [cell_of_row w g i cur _ _ hg, ← h1, ← htake, List.getElem?_take, if_pos (by omega)]
        simp
      rw [← hc, World.cell?_setCell_other _ _ _ _ (fun h => hik (by cases h; rfl))]
/-- s[k:k+1] of rows. -/
theorem run_one_rows (A : Option Addr) (len cap k k1 : Nat) (h1 : k + 1 = k1) (hk : k1 ≤ cap) : ∃ X : Option Addr, (∀ W, (Instr.slice 22 (.slice A len cap) (some (.int .i64 (k : Int))) (some (.int .i64 (k1 : Int))) none).run Tryd.prog W = .ok (.slice X 1 (cap - k)) W) ∧
    ∀ w rows, RRd w A rows → k < rows.length → RRd w X [ro rows k] := by
  obtain ⟨i0, hi, hz0, hz1, hz2⟩ := info_parts row_info
  have he : Tryd.prog.elem 22 = 35 := by kernel_rfl
  refine ⟨if cap = k then A else A.map (·.add k), fun W => ?_, fun w rows h hl i hi => ?_⟩
  · rw [run_slice_lh W 22 _ len cap (by rw [he]; exact Tryd.underlying22) .i64 .i64 (k : Int) (k1 : Int) (by omega) (by omega) (by omega), he]
    cases A <;> simp [sizeOf, typeInfo, hi, hz1, Result.andThen, sliced, ← h1]
  · have hi0 : i = 0 := by simpa using hi
    subst hi0
    obtain ⟨b', o', B, c, e', hc', hl', hr'⟩ := h k hl
    subst e'
    have e : ro [ro rows k] 0 = ro rows k := rfl
    refine ⟨b', o' + k, B, c, by rw [if_neg (by omega)]; simp [addr_add], ?_, ?_, ?_⟩
    · rw [e, Nat.add_zero]; exact hc'
    · rw [e]; exact hl'
    · rw [e]; exact hr'
theorem changes_clash (rows : List (List Nat)) (k : Nat) (t : List Nat) (i : Nat) (ps : List (List Nat)) (hk : k < rows.length) (hne : ro rows k ≠ t) (he : mroot sha rows = mroot sha (rows.set k t)) :
    ∃ x ∈ digd rows (rows.set k t) t i ps, ∃ y ∈ digd rows (rows.set k t) t i ps, sha x = sha y ∧ x ≠ y := by
  have h := bind_roots sha_len rows.length rows (rows.set k t) (Nat.le_refl _) he (fun e => hne (by
    have h2 := ro_set rows k k t hk
    rw [if_pos rfl, ← e] at h2
    exact h2))
  obtain ⟨x, hx, y, hy, e⟩ := h
  exact ⟨x, by unfold digd; simp [hx], y, by unfold digd; simp [hy], e⟩
theorem clash_tells (R : RefOf) (l k : List (List Nat)) (t : List Nat) (i : Int) (ps : List (List Nat)) (A B AT D : Option Addr) (ca cb ct cd : Nat) (w : World) (H : ClashIn l k t i ps A B AT D ca cb ct cd w)
    (hc : ∃ x ∈ digd l k t i.toNat ps, ∃ y ∈ digd l k t i.toNat ps, sha x = sha y ∧ x ≠ y) :
    Calls Tryd.prog 19 #[.slice A l.length ca, .slice B k.length cb, .slice AT t.length ct, .int .i64 i, .slice D ps.length cd] w (Tells (.bool true) w) :=
  (law11_clash R l k t i ps A B AT D ca cb ct cd w H).mono fun e w' hh => by
    obtain ⟨b, rfl, hb, hx⟩ := hh
    rw [hb hc]
    exact ⟨rfl, hx⟩
theorem mineR_some {w : World} {base : Nat} {v : Value} {rows : List (List Nat)} (h : MineR w base v rows) (h0 : 0 < rows.length) : ∃ g c, v = .slice (some ⟨g, 0, none⟩) rows.length c ∧ rows.length ≤ c ∧ base ≤ g ∧ g < w.heap.size ∧ ∃ cur, w.heap[g]? = some (.cells cur 35 (0, 0)) := by
  have hb := h.block
  obtain ⟨vs, hown, _⟩ := h.has
  rcases hown.2 with ⟨_, e⟩ | ⟨g, cap, cur, rfl, _, hg, hnc, _, _, _⟩
  · omega
  · exact ⟨g, cap, rfl, hnc, (hb g rfl).1, (hb g rfl).2, cur, hg⟩
theorem far_old {w W : World} {A : Option Addr} {rows : List (List Nat)} (hr : RRd w A rows) (hx : Ext w W) (g : Nat) (hg : w.heap.size ≤ g) :
    ∀ i, i < rows.length → ∀ b o n c, (∃ b' o', A = some ⟨b', o', none⟩ ∧ W.cell? ⟨b', o' + i, none⟩ = some (.slice (some ⟨b, o, none⟩) n c)) → 0 < n → some b ≠ (Value.slice (some ⟨g, 0, none⟩) 0 0).ownBlock := by
  rintro i hi b o n c ⟨b', o', e, hc⟩ hn e'
  obtain ⟨b1, o1, B, c1, e1, hc1, hl1, hr1⟩ := hr i hi
  rw [e] at e1
  injection e1 with e1
  injection e1 with e2 e3
  subst e2; subst e3
  have hc2 := (hx.below.cell (p := ⟨b', o' + i, none⟩) (block_lt_of_cell hc1)).trans hc1
  rw [hc] at hc2
  injection hc2 with hc2
  injection hc2 with e4 e5 e6
  subst e5
  obtain ⟨b2, o2, e7, hc3⟩ := hr1.2 0 hn
  rw [← e4] at e7
  injection e7 with e7
  injection e7 with e8 e9
  have := block_lt_of_cell hc3
  have e10 : some b = some g := e'
  injection e10 with e10
  simp at this
  omega
set_option maxHeartbeats 3200000 in
set_option maxRecDepth 100000 in
theorem changes11_walk (S : ShaOH) (C : MerkleSaid) (R : RefOf) (rows : List (List Nat)) (x : Nat) (hx256 : x < 256) (t : List Nat) (A AT : Option Addr) (c ct : Nat) (w : World) (hgl : GL w) (hr : RRd w A rows) (hc : rows.length ≤ c) (hl : rows.length ≤ maxLen) (ht : Rd w AT t) (htc : t.length ≤ ct) :
    Calls Tryd.prog 8 #[.slice A rows.length c, .int .u8 (x : Int), .slice AT t.length ct] w (Holds w) := by
  have HAW := Lib.hid (fun W (h : Ext w W) => awake11 S C W (hgl.ext h))
  have HFW := Lib.hid (fun W (h : Ext w W) => few11 rows A c W (hr.ext h) hl)
  have HGL := Lib.hid hgl
  have HRR := Lib.hid hr
  have HTR := Lib.hid ht
  have HRC := Lib.hid hc
  have HTC := Lib.hid htc
  have hls := fun (h : fewQ rows) => show ∀ i, i < rows.length → (ro rows i).length ≤ 32768 from fun i hi => Nat.le_trans (h.2 i hi) (by decide)
  have HLS := Lib.hid hls
  have HRT := Lib.hid (fun (h : fewQ rows) W (hx : Ext w W) => C.root rows A c W (hgl.ext hx) (hr.ext hx) hc (by have := h.1; omega) (hls h))
  have HPR := Lib.hid (fun (h : fewQ rows) i (hi : i < rows.length) W (hx : Ext w W) => C.prf rows i A c W hi (hgl.ext hx) (hr.ext hx) hc (by have := h.1; omega) (hls h))
  have HDB := Lib.hid (fun (h : fewQ rows) i => dep_big rows i h.1)
  obtain ⟨n, hn⟩ : ∃ n, rows.length = n := ⟨_, rfl⟩
  have HN := Lib.hid hn
  obtain ⟨m, hm⟩ : ∃ n, t.length = n := ⟨_, rfl⟩
  have HM := Lib.hid hm
  rw [hn] at HFW HRT HPR HRC ⊢
  rw [hm] at HTC ⊢
  unfold ProofS at HPR
  clear hgl hr hc hl hls hn hm ht htc
  go_enter Tryd.func8, Tryd.ntmps8
  go_wp2_with fail
  refine (HAW.out _ (Ext.refl w)).mono ?_
  rintro e w1 ⟨rfl, hx1⟩
  have HX1 := Lib.hid hx1
  clear hx1
  go_wp2_with fail
  refine (HFW.out _ HX1.out).mono ?_
  rintro e w2 ⟨b, rfl, hq, rfl⟩
  cases b with
  | false =>
    clear hq
    go_wp2_with fail
    refine (HAW.out _ HX1.out).mono ?_
    rintro e w3 ⟨rfl, hx3⟩
    have HX3 := Lib.hid (HX1.out.trans hx3)
    clear hx3
    go_wp2
    go_ret
    exact ⟨rfl, HX3.out⟩
  | true =>
    have HF := Lib.hid (hq rfl)
    clear hq
    by_cases hn0 : n = 0
    · subst hn0
      go_wp2_with fail
      refine (HAW.out _ HX1.out).mono ?_
      rintro e w3 ⟨rfl, hx3⟩
      have HX3 := Lib.hid (HX1.out.trans hx3)
      clear hx3
      go_wp2
      go_ret
      exact ⟨rfl, HX3.out⟩
    have hnI : ¬ (n : Int) = 0 := by omega
    have dn : decide ((n : Int) = 0) = false := decide_eq_false hnI
    by_cases h20 : m ≤ 20
    · have d1 : decide ((m : Int) > 20) = false := decide_eq_false (by omega)
      have n1 : ¬ 20 < (m : Int) := by omega
      obtain ⟨k, hk⟩ : ∃ k, x % n = k := ⟨_, rfl⟩
      have hkn : k < n := by rw [← hk]; exact Nat.mod_lt _ (by omega)
      have htm : Int.tmod (x : Int) (n : Int) = (k : Int) := by rw [← hk]; rfl
      have HN12 := Lib.hid (show n ≤ 12 from by have := HF.out.1; have := HN.out; omega)
      obtain ⟨k1, hk1⟩ : ∃ q, k + 1 = q := ⟨_, rfl⟩
      have e1 : wrap64 ((k : Int) + 1) = (k1 : Int) := by rw [w64_succ k (by have := HN12.out; omega), hk1]
      have e2 : IntKind.i64.wrap ((k : Int) + 1) = (k1 : Int) := by rw [IntKind.wrap_i64]; have := HN12.out; omega
      obtain ⟨X, hX, hXR⟩ := run_one_rows A n c k k1 hk1 (by have := HRC.out; omega)
      have HXR := Lib.hid (fun W (h : Ext w W) => hXR W rows (HRR.out.ext h) (by rw [HN.out]; exact hkn))
      have HP := Lib.hid (HPR.out HF.out k hkn)
      have HKN := Lib.hid hkn
      obtain ⟨cr, hcr⟩ : ∃ q, c - k = q := ⟨_, rfl⟩
      rw [hcr] at hX
      have HLI := Lib.hid (fun A' B W (ha : RRd W A' [ro rows k]) (hb : RRd W B [t]) => show Calls Tryd.prog 18 #[.slice A' 1 cr, .slice B 1 1] W (Hands (.bool (decide ([ro rows k] = [t]))) W) from lists9 [ro rows k] [t] A' B cr 1 W ha hb (by simp) (fun q hq => by
        have hq0 : q = 0 := by simpa using hq
        subst hq0
        exact Nat.le_trans (HLS.out HF.out k (by rw [HN.out]; exact HKN.out)) (by decide)))
      obtain ⟨bb, hbb⟩ : ∃ b, decide ([ro rows k] = [t]) = b := ⟨_, rfl⟩
      have HBB := Lib.hid (fun (_ : Unit) => hbb)
      rw [hbb] at HLI
      have HTS := Lib.hid (fun W (h : Ext w W) => show Sl W (.slice AT m ct) t from ⟨AT, ct, by rw [HM.out], by rw [HM.out]; exact HTC.out, HTR.out.ext h⟩)
      clear hk hkn hk1 hXR hcr hbb HPR
      go_wp2_with fail
      have HB1 := Lib.hid (rrd_lit w1 [.slice AT m ct] [t] (rowsV_one (HTS.out _ HX1.out)))
      refine (HLI.out X (some ⟨w1.heap.size, 0, none⟩) _ (HXR.out _ (HX1.out.alloc _)) HB1.out).mono ?_
      rintro e w3 ⟨rfl, q3, rfl⟩
      have HX3 := Lib.hid (show Ext w ((w1.alloc (.cells #[.slice AT m ct] 35)).drewN q3) from (HX1.out.alloc _).drewN q3)
      generalize (w1.alloc (.cells #[.slice AT m ct] 35)).drewN q3 = w3 at HX3 ⊢
      cases bb with
      | true =>
        go_wp2
        go_ret
        exact ⟨rfl, HX3.out⟩
      | false =>
        have HNE := Lib.hid (show ro rows k ≠ t from fun e => by have h := of_decide_eq_false (HBB.out ()); exact h (by rw [e]))
        obtain ⟨g4, hg4⟩ : ∃ g, w3.heap.size = g := ⟨_, rfl⟩
        have HG4 := Lib.hid (show w.heap.size ≤ g4 from by rw [← hg4]; exact HX3.out.size)
        have HE := Lib.hid (show MineR (w3.alloc (.cells #[] 35)) g4 (.slice (some ⟨g4, 0, none⟩) 0 0) [] from by rw [← hg4]; exact mineR_empty w3)
        have HX4 := Lib.hid (show Ext w (w3.alloc (.cells #[] 35)) from HX3.out.alloc _)
        have HS4 := Lib.hid (show g4 ≤ (w3.alloc (.cells #[] 35)).heap.size from by simp; omega)
        have HFAR := Lib.hid (far_old HRR.out HX4.out g4 HG4.out)
        have HLN := Lib.hid (show ([] : List (List Nat)).length + rows.length ≤ 1048576 from by have := HN12.out; have := HN.out; simp; omega)
        have hkI : (k : Int) < (n : Int) := by have := HKN.out; omega
        have hkn := HKN.out
        have hk0 : (0 : Int) ≤ (k : Int) := by omega
        go_wp2_with (at_builtin; go_loud (refine wpList_append_rows rfl (.tmp 44) (.tmp 45) rfl g4 _ [] rows rfl HE.out A n c rfl HN.out (HRR.out.ext HX4.out) HFAR.out HLN.out HS4.out ?_; intro v5 w5 hm5 hg5 hb5; rw [List.nil_append] at hm5; have HX5 := Lib.hid (HX4.out.more hg5 (fun q e => by injection e with e; rw [← e]; exact HG4.out)); obtain ⟨g5, c5, rfl, hc5, hg5a, hg5b, cur5, hcur5⟩ := mineR_some hm5 (by have := HN.out; have := HKN.out; omega); have HM5 := Lib.hid hm5; have HG5 := Lib.hid (And.intro hg5a hg5b); have hcl := hm5.slice; have HC5 := Lib.hid hc5; have hcell : ∃ u, w5.cell? ⟨g5, k, none⟩ = some u := (by obtain ⟨A6, c6, e6, _, hr6⟩ := hcl; injection e6 with e6; obtain ⟨b7, o7, B7, c7, e7, hc7, _⟩ := hr6 k (by rw [HN.out]; exact HKN.out); rw [← e6] at e7; injection e7 with e7; injection e7 with e8 e9; subst e8; subst e9; rw [Nat.zero_add] at hc7; exact ⟨_, hc7⟩); obtain ⟨u5, hu5⟩ := hcell; have hfz := frozen_of_row w5 g5 k cur5 _ hcur5; rw [HN.out]; clear hm5 hg5 hb5 hc5 hg5a hg5b hcl hcur5))
        have HX6 := Lib.hid (show Ext w (w5.setCell ⟨g5, k, none⟩ (.slice AT m ct)) from HX5.out.more (grown_set w5 g5 k _) (fun q e => by injection e with e; rw [← e]; exact Nat.le_trans HG4.out HG5.out.1))
        have HR6 := Lib.hid (show RRd (w5.setCell ⟨g5, k, none⟩ (.slice AT m ct)) (some ⟨g5, 0, none⟩) (rows.set k t) from by
          have h := rrd_put (AT := AT) (t := t) (ct := ct) HM5.out (by rw [HN.out]; exact HKN.out) (HTR.out.ext HX5.out) (by rw [HM.out]; exact HTC.out) (fun b o e h0 e' => by
            obtain ⟨b2, o2, e7, hc3⟩ := HTR.out.2 0 h0
            rw [e] at e7
            injection e7 with e7
            injection e7 with e8 e9
            have h9 := block_lt_of_cell hc3
            have := HG4.out
            have := HG5.out.1
            simp at h9
            omega)
          rw [HM.out] at h
          exact h)
        generalize w5.setCell ⟨g5, k, none⟩ (.slice AT m ct) = w6 at HX6 HR6 ⊢
        clear hu5 hfz HM5
        have HSL := Lib.hid (show (rows.set k t).length = n from by rw [List.length_set]; exact HN.out)
        have HLS2 := Lib.hid (show ∀ i, i < (rows.set k t).length → (ro (rows.set k t) i).length ≤ 32768 from fun i hi => by
          rw [ro_set rows k i t (by rw [HN.out]; exact HKN.out)]
          by_cases e : i = k
          · rw [if_pos e, HM.out]; omega
          · rw [if_neg e]; exact HLS.out HF.out i (by rw [HSL.out] at hi; rw [HN.out]; exact hi))
        have HPO := Lib.hid (fun W (h : Ext w6 W) => C.prf (rows.set k t) k (some ⟨g5, 0, none⟩) c5 W (by rw [HSL.out]; exact HKN.out) (HGL.out.ext (HX6.out.trans h)) (HR6.out.ext h) (by rw [HSL.out, ← HN.out]; exact HC5.out) (by rw [HSL.out]; have := HN12.out; omega) HLS2.out)
        have HRO := Lib.hid (fun W (h : Ext w6 W) => C.root (rows.set k t) (some ⟨g5, 0, none⟩) c5 W (HGL.out.ext (HX6.out.trans h)) (HR6.out.ext h) (by rw [HSL.out, ← HN.out]; exact HC5.out) (by rw [HSL.out]; have := HN12.out; omega) HLS2.out)
        have HPQ := Lib.hid (show mprf sha (rows.set k t) k = mprf sha rows k from mprf_set rows.length rows k t (Nat.le_refl _) (by rw [HN.out]; exact HKN.out))
        unfold ProofS at HPO
        rw [HPQ.out, HSL.out] at HPO
        rw [HSL.out] at HRO
        have HCL := Lib.hid (fun (he : mroot sha rows = mroot sha (rows.set k t)) W D cd (h : Ext w6 W) (hp : DRd W D (mprf sha rows k)) (hpc : (mprf sha rows k).length ≤ cd) => clash_tells R rows (rows.set k t) t (k : Int) (mprf sha rows k) A (some ⟨g5, 0, none⟩) AT D c c5 ct cd W
          { lr := HRR.out.ext (HX6.out.trans h), lc := by rw [HN.out]; exact HRC.out, ln := by rw [HN.out]; have := HN12.out; omega, ls := HLS.out HF.out, kr := HR6.out.ext h, kc := by rw [HSL.out, ← HN.out]; exact HC5.out, kn := by rw [HSL.out]; have := HN12.out; omega, ks := HLS2.out, tr := HTR.out.ext (HX6.out.trans h), tc := by rw [HM.out]; exact HTC.out, ts := by rw [HM.out]; omega, pr := hp, pc := hpc, pn := by have := HDB.out HF.out k; omega, ib := by have := HN12.out; have := HKN.out; omega } (by rw [Int.toNat_natCast]; exact changes_clash rows k t k (mprf sha rows k) (by rw [HN.out]; exact HKN.out) HNE.out he))
        rw [HN.out, HSL.out, HM.out] at HCL
        have HQ := Lib.hid (fun W => run_ne_dgc (bt_dgc (mroot sha rows)) (bt_dgc (mroot sha (rows.set k t))) (mroot_32 _) (mroot_32 _) (mroot_sm _) (mroot_sm _) W)
        have HDL := Lib.hid (HDB.out HF.out k)
        unfold dgv at HRT HRO
        obtain ⟨P, hP⟩ : ∃ P, mprf sha rows k = P := ⟨_, rfl⟩
        rw [hP] at HP HPO HCL HDL
        obtain ⟨ma, hma⟩ : ∃ m, mroot sha rows = m := ⟨_, rfl⟩
        obtain ⟨mb, hmb⟩ : ∃ m, mroot sha (rows.set k t) = m := ⟨_, rfl⟩
        rw [hma] at HRT HCL HQ
        rw [hmb] at HRO HCL HQ
        obtain ⟨VA, hVA⟩ : ∃ V, bt 32 (co ma) = V := ⟨_, rfl⟩
        obtain ⟨VB, hVB⟩ : ∃ V, bt 32 (co mb) = V := ⟨_, rfl⟩
        rw [hVA] at HRT HQ
        rw [hVB] at HRO HQ
        clear hP hma hmb hVA hVB
        refine (HP.out _ HX6.out).mono ?_
        rintro e w7 ⟨v7, rfl, hm7, hx7⟩
        have HX7 := Lib.hid hx7
        obtain ⟨B7, c7, rfl, hc7, hr7⟩ := hm7.slice
        have HR7 := Lib.hid hr7
        have HC7 := Lib.hid hc7
        clear hm7 hx7 hc7 hr7
        go_wp2_with fail
        refine (HPO.out _ HX7.out).mono ?_
        rintro e w8 ⟨v8, rfl, hm8, hx8⟩
        have HX8 := Lib.hid (HX7.out.trans hx8)
        obtain ⟨B8, c8, rfl, hc8, hr8⟩ := hm8.slice
        have HR8 := Lib.hid (HR7.out.ext hx8)
        have HSM := Lib.hid (same11 P P B7 B8 c7 c8 w8 HR8.out hr8 (by have := HDL.out; omega))
        rw [decide_eq_true rfl] at HSM
        clear hm8 hx8 hc8 hr8
        go_wp2_with fail
        refine HSM.out.mono ?_
        rintro e w9 ⟨rfl, hx9⟩
        have HX9 := Lib.hid (HX8.out.trans hx9)
        have HR9 := Lib.hid (HR8.out.ext hx9)
        clear hx9
        go_wp2_with fail
        refine (HRT.out HF.out _ (HX6.out.trans HX9.out)).mono ?_
        rintro e w10 ⟨rfl, hx10⟩
        have HX10 := Lib.hid (HX9.out.trans hx10)
        have HR10 := Lib.hid (HR9.out.ext hx10)
        clear hx10
        go_wp2_with fail
        refine (HRO.out _ HX10.out).mono ?_
        rintro e w11 ⟨rfl, hx11⟩
        have HX11 := Lib.hid (HX10.out.trans hx11)
        have HR11 := Lib.hid (HR10.out.ext hx11)
        clear hx11
        have hq := HQ.out
        by_cases hab : ma = mb
        · rw [decide_eq_true hab] at hq
          have HCC := Lib.hid (HCL.out hab w11 B7 c7 HX11.out HR11.out HC7.out)
          clear hab
          go_wp2_with fail
          refine HCC.out.mono ?_
          rintro e w12 ⟨rfl, hx12⟩
          have HX12 := Lib.hid (HX6.out.trans (HX11.out.trans hx12))
          clear hx12
          go_wp2
          go_ret
          exact ⟨rfl, HX12.out⟩
        · rw [decide_eq_false hab] at hq
          clear hab
          go_wp2
          go_ret
          exact ⟨rfl, HX6.out.trans HX11.out⟩
    · have d1 : decide ((m : Int) > 20) = true := decide_eq_true (by omega)
      have n1 : 20 < (m : Int) := by omega
      go_wp2_with fail
      refine (HAW.out _ HX1.out).mono ?_
      rintro e w3 ⟨rfl, hx3⟩
      have HX3 := Lib.hid (HX1.out.trans hx3)
      clear hx3
      go_wp2
      go_ret
      exact ⟨rfl, HX3.out⟩
end Go.Proofs.YthbfodmpoheahaaDoor

/-
  Numbers of one kind in a block of a call's own, that are changed one by one; what stays while other blocks are written. Conditions: none.
-/
namespace Go.Proofs.YthbfodmpoheahaaDoor
open Go.RowKit
open Pol (co Sm)

section
variable {k : IntKind}
/-- The first n cells of block g are the numbers F of kind k, and may be written. -/
def NCells (k : IntKind) (w : World) (g n : Nat) (F : Nat → Nat) : Prop := ∀ i, i < n → w.cell? ⟨g, i, none⟩ = some (.int k ((F i : Nat) : Int)) ∧ w.frozen? ⟨g, i, none⟩ = false
theorem NCells.drewN {w : World} {g n : Nat} {F : Nat → Nat} (h : NCells k w g n F) (q : Nat) : NCells k (w.drewN q) g n F := h
theorem NCells.congr {w : World} {g n : Nat} {F F' : Nat → Nat} (h : NCells k w g n F) (hf : ∀ i, i < n → F i = F' i) : NCells k w g n F' := fun i hi => ⟨by rw [(h i hi).1, hf i hi], (h i hi).2⟩
theorem NCells.store {w : World} {g n : Nat} {F : Nat → Nat} (h : NCells k w g n F) (j v : Nat) : NCells k (w.setCell ⟨g, j, none⟩ (.int k (v : Int))) g n (upd F j v) := fun i hi => by
  refine ⟨?_, by rw [World.frozen?_setCell]; exact (h i hi).2⟩
  unfold upd
  by_cases e : i = j
  · subst e
    rw [if_pos rfl]
    exact World.cell?_setCell_same' _ _ _ (by rw [(h i hi).1]; rfl)
  · rw [if_neg e, World.cell?_setCell_other _ _ _ _ (fun h => e (by cases h; rfl))]
    exact (h i hi).1
theorem NCells.keep {w w' : World} {g n : Nat} {F : Nat → Nat} {row : Option Nat} (h : NCells k w g n F) (hg : w.grownBy w' row) (hne : some g ≠ row) : NCells k w' g n F := fun i hi =>
  ⟨hg.cell (h i hi).1 hne, (World.frozen?_of_block (a := ⟨g, i, none⟩) (hg.block g (block_lt_of_cell (h i hi).1) hne)).trans (h i hi).2⟩
theorem NCells.ext {w w' : World} {g n : Nat} {F : Nat → Nat} (h : NCells k w g n F) (hx : Ext w w') : NCells k w' g n F := fun i hi =>
  ⟨(hx.below.cell (p := ⟨g, i, none⟩) (block_lt_of_cell (h i hi).1)).trans (h i hi).1, (hx.below.frozen (p := ⟨g, i, none⟩) (block_lt_of_cell (h i hi).1)).trans (h i hi).2⟩
theorem NRd.keep {w w' : World} {A : Option Addr} {l : List Nat} {row : Option Nat} (h : NRd k w A l) (hg : w.grownBy w' row) (hne : ∀ b o, A = some ⟨b, o, none⟩ → 0 < l.length → some b ≠ row) : NRd k w' A l := fun i hi => by
  obtain ⟨b, o, e, hc⟩ := h i hi
  exact ⟨b, o, e, hg.cell hc (hne b o e (by omega))⟩
theorem NMine.cells {T : TypeId} {w : World} {base : Nat} {v : Value} {l : List Nat} (hm : NMine T k w base v l) : ∃ A c g, v = .slice A l.length c ∧ l.length ≤ c ∧ (0 < l.length → A = some ⟨g, 0, none⟩ ∧ base ≤ g) ∧ NCells k w g l.length (co l) := by
  rcases hm.2 with ⟨rfl, hn⟩ | ⟨g, cap, cur, rfl, hb, hg, hnc, _, _, htake⟩
  · have : l = [] := List.eq_nil_of_length_eq_zero hn
    subst this
    exact ⟨none, 0, 0, rfl, Nat.le_refl _, fun h => absurd h (by simp), fun i hi => absurd hi (by simp)⟩
  · refine ⟨_, cap, g, rfl, hnc, fun _ => ⟨rfl, hb⟩, fun i hi => ⟨?_, frozen_of_row w g i cur _ hg⟩⟩
    rw [cell_of_row w g i cur _ _ hg, ← nv_at l i hi, ← htake, List.getElem?_take, if_pos (by omega)]
    simp
end
end Go.Proofs.YthbfodmpoheahaaDoor

/-
  Part 7 of the texts that the seat's proofs stand on; each part of it begins with its own sentence and conditions. Conditions: those that each theorem names.
-/
import Derived.Test.YthbfodmpoheahaaDoorShowsPack6
import Derived.Lib.Tables
import Derived.Lib.Hide

/-
  The law MerkleShows, walked, under what the functions of layers 10 and 11 are to do. Conditions: none.
-/
namespace Go.Proofs.YthbfodmpoheahaaDoor
open Go.RowKit
open Pol (co Sm)

theorem run_load_u8s (W : World) (p : Addr) (v : Value) (h : W.cell? p = some v) : (Instr.loadAt 35 (.pointer (some p))).run Tryd.prog W = .ok v W := by
  simp only [Instr.loadAt, Instr.sureAddr, Sem.run_bind, Sem.run_pure, Result.andThen, loadVar]
  simp [isAgg, run_underlying Tryd.underlying35, h, Result.andThen, go_sem]
theorem wpList_of_wp {P : Program} {ops : Array Oper} {rest : List Oper} {o : Oper} {a : Act} {w : World} {Q : Exit → Act → World → Prop} (hgd : Region.wanted o (yielded ops a.tmps) = true) (h : Oper.wp P o a w (fun a w => wpList P ops Q rest a w) Q) : wpList P ops Q (o :: rest) a w := by
  unfold wpList
  rw [if_pos hgd]
  exact .inl h
theorem wpList_build_dig_g {ops : Array Oper} {rest : List Oper} {o : Oper} {a : Act} {w : World} {Q : Exit → Act → World → Prop} (hgd : Region.wanted o (yielded ops a.tmps) = true) (x : Operand)
    (ho : o.op = .buildSlice 25 1 #[(0, x)]) (V : Array Value) (hx : a.eval x = .agg V) (hV : V.size = 32)
    (h : wpList Tryd.prog ops Q rest (a.put o.dst (.slice (some ⟨w.heap.size, 0, none⟩) 1 1)) (w.alloc (.cells V 30))) : wpList Tryd.prog ops Q (o :: rest) a w :=
  wpList_of_wp hgd (by
    unfold Oper.wp execOp
    have e : (#[(0, x)] : Array (Nat × Operand)).map (fun (i, x) => (i, a.eval x)) = #[(0, .agg V)] := by simp [hx]
    simp only [ho, Sem.run_bind, e, run_build_dig V hV, Result.andThen_ok]
    exact h)
theorem wpList_append_drd_g {ops : Array Oper} {rest : List Oper} {o : Oper} {a : Act} {w : World} {Q : Exit → Act → World → Prop} (hgd : Region.wanted o (yielded ops a.tmps) = true) (s x : Operand)
    (ho : o.op = .call { callee := .builtin .append, args := #[s, x], argTypes := #[25, 25] })
    (base : Nat) (v : Value) (l m : List (List Nat)) (hs : a.eval s = v) (hown : DMine w base v l) (A : Option Addr) (n c : Nat) (hx : a.eval x = .slice A n c) (hn : m.length = n) (hr : DRd w A m)
    (hlen : l.length + m.length ≤ 1048576) (hbase : base ≤ w.heap.size)
    (h : ∀ v' w', DMine w' base v' (l ++ m) → w.grownBy w' v.ownBlock → (v'.ownBlock = v.ownBlock ∨ v'.ownBlock = some w.heap.size) → wpList Tryd.prog ops Q rest (a.put o.dst v') w') :
    wpList Tryd.prog ops Q (o :: rest) a w := by
  subst hn
  obtain ⟨v', w', hrun, h2, h3, h4⟩ := run_append_drd w base o.type v l m hown A c hr hlen hbase
  refine wpList_of_wp hgd ?_
  unfold Oper.wp execOp
  simp only [ho, resolve, invoke, builtin, Sem.run_bind, Sem.run_pure, Result.andThen_ok, List.map_toArray, List.map_cons, List.map_nil, hs, hx, hrun]
  exact h v' w' h2 h3 h4
theorem dmine_empty (w : World) : DMine (w.alloc (.cells #[] 30)) w.heap.size (.slice (some ⟨w.heap.size, 0, none⟩) 0 0) [] :=
  ⟨fun _ h => absurd h (by simp), World.ownsRow_lit w #[] 0 (Nat.le_refl _) (Nat.zero_le _) rfl⟩
theorem drd_keep {w w' : World} {g : Nat} {l : List (List Nat)} {row : Option Nat} (h : DRd w (some ⟨g, 0, none⟩) l) (hg : w.grownBy w' row) (hne : some g ≠ row) : DRd w' (some ⟨g, 0, none⟩) l :=
  ⟨h.1, h.2.keep hg (fun b o e _ => by injection e with e; injection e with e1; rw [← e1]; exact hne)⟩
theorem get_ro {l : List (List Nat)} {i : Nat} (h : i < l.length) : l[i]? = some (ro l i) := by
  unfold ro
  rw [List.getElem?_eq_getElem h]
  rfl
theorem shows_yes (l : List (List Nat)) (i : Nat) (hi : i < l.length) (hl : l.length ≤ 12) : shw (mroot sha l) (ro l i) (i : Int) (l.length : Int) (mprf sha l i) = true := by
  rw [shw_is hi (by omega) (mlift_prf sha l.length l i (ro l i) (Nat.le_refl _) (get_ro hi)), decide_eq_true rfl]
theorem shows_no (l : List (List Nat)) (i : Nat) (_hi : i < l.length) (d : List Nat) (t : List Nat) (ps : List (List Nat)) (h : ps.length ≠ (mprf sha l i).length) : shw d t (i : Int) (l.length : Int) ps = false := by
  refine shw_not ?_
  cases e : mlift sha (lf sha t) l.length i ps with
  | none => rfl
  | some x =>
    have h1 := (mlift_len sha l.length (lf sha t) l.length i ps (Nat.le_refl _)).1 (by rw [e]; rfl)
    rw [← mprf_len sha l.length l i (Nat.le_refl _)] at h1
    exact absurd h1 h
set_option maxHeartbeats 6400000 in
set_option maxRecDepth 100000 in
theorem shows11_walk (S : ShaOH) (C : MerkleSaid) (rows : List (List Nat)) (x : Nat) (hx256 : x < 256) (d : List Nat) (hd : d.length = 32) (hsd : Sm d) (A : Option Addr) (c : Nat) (w : World) (hgl : GL w) (hr : RRd w A rows) (hc : rows.length ≤ c) (hl : rows.length ≤ maxLen) :
    Calls Tryd.prog 5 #[.slice A rows.length c, .int .u8 (x : Int), dgv d] w (Holds w) := by
  have HAW := Lib.hid (fun W (h : Ext w W) => awake11 S C W (hgl.ext h))
  have HFW := Lib.hid (fun W (h : Ext w W) => few11 rows A c W (hr.ext h) hl)
  have hls := fun (h : fewQ rows) => show ∀ i, i < rows.length → (ro rows i).length ≤ 32768 from fun i hi => Nat.le_trans (h.2 i hi) (by decide)
  have HRT := Lib.hid (fun (h : fewQ rows) W (hx : Ext w W) => C.root rows A c W (hgl.ext hx) (hr.ext hx) hc (by have := h.1; omega) (hls h))
  have HPR := Lib.hid (fun (h : fewQ rows) i (hi : i < rows.length) W (hx : Ext w W) => C.prf rows i A c W hi (hgl.ext hx) (hr.ext hx) hc (by have := h.1; omega) (hls h))
  have HDB := Lib.hid (fun (h : fewQ rows) i => dep_big rows i h.1)
  have HRO := Lib.hid (fun i (hi : i < rows.length) => hr i hi)
  have HSC := Lib.hid (fun (h : fewQ rows) i (hi : i < rows.length) W R k qs D kd (hx : Ext w W) (ht : Rd w R (ro rows i)) (hk : (ro rows i).length ≤ k) (hq : DRd W D qs) (hkd : qs.length ≤ kd ∧ qs.length ≤ 64) =>
    C.shows (mroot sha rows) (ro rows i) (i : Int) (rows.length : Int) qs R D k kd W (hgl.ext hx) (mroot_32 _) (mroot_sm _) (ht.ext hx) hk (Nat.le_trans (h.2 i hi) (by decide)) hq hkd.1 (by omega))
  have HYS := Lib.hid (fun (h : fewQ rows) i (hi : i < rows.length) => shows_yes rows i hi h.1)
  have HNO := Lib.hid (fun i (hi : i < rows.length) ps h => shows_no rows i hi (mroot sha rows) (ro rows i) ps h)
  have HLB := Lib.hid (fun (W : World) (g : Nat) (h : W.heap[g]? = some (.cells (bt 32 (co (mroot sha rows))) 30 (0, 0))) => load_blk W g (mroot sha rows) 30 (0, 0) h)
  have HLM := Lib.hid (fun (W : World) (g : Nat) (h : W.heap[g]? = some (.cells (bt 32 (co d)) 30 (0, 0))) => load_blk W g d 30 (0, 0) h)
  have HLD := Lib.hid (fun W => one_drd W d hd hsd)
  have HVS := Lib.hid (show (bt 32 (co d)).size = 32 from bt_size _ _)
  have HVR := Lib.hid (bt_dgc (mroot sha rows))
  have HVD := Lib.hid (bt_dgc d)
  have hz := zero_digest.1
  have HZ32 := Lib.hid (fun (_ : Unit) => show (bt 32 fun _ => 0).size = 32 from bt_size _ _)
  obtain ⟨Z, hZ⟩ : ∃ Z, (bt 32 fun _ => 0) = Z := ⟨_, rfl⟩
  rw [hZ] at hz HZ32
  obtain ⟨n, hn⟩ : ∃ n, rows.length = n := ⟨_, rfl⟩
  rw [hn] at HFW HRT HPR HRO HSC HYS HNO ⊢
  unfold ProofS at HPR
  unfold dgv at HRT HSC HLB HLM ⊢
  obtain ⟨VR, hVR⟩ : ∃ V, bt 32 (co (mroot sha rows)) = V := ⟨_, rfl⟩
  rw [hVR] at HRT HSC HLB HVR
  obtain ⟨VD, hVD⟩ : ∃ V, bt 32 (co d) = V := ⟨_, rfl⟩
  rw [hVD] at HLM HVD HLD HVS ⊢
  obtain ⟨MR, hMR⟩ : ∃ m, mroot sha rows = m := ⟨_, rfl⟩
  rw [hMR] at HSC HYS HNO HVR
  obtain ⟨gd, hgd⟩ : ∃ g, w.heap.size = g := ⟨_, rfl⟩
  have HGD0 := Lib.hid (show (w.alloc (.cells VD 30)).heap[gd]? = some (.cells VD 30 (0, 0)) from by rw [← hgd]; exact heap_alloc_new w _)
  have HX0 := Lib.hid ((Ext.refl w).alloc (.cells VD 30))
  clear hgl hr hc hl hls hVR hVD hZ hMR hd hsd
  go_enter Tryd.func5, Tryd.ntmps5
  go_wp2_with (refine wpList_box_of rfl 30 (.tmp 2) rfl VD rfl ?_)
  generalize w.alloc (.cells VD 30) = w0 at HGD0 HX0 ⊢
  clear hgd
  go_wp2_with fail
  refine (HAW.out _ HX0.out).mono ?_
  rintro e w1 ⟨rfl, hx1⟩
  have HX1 := Lib.hid (HX0.out.trans hx1)
  have HGD1 := Lib.hid (WBlk.ext' HGD0.out hx1)
  clear hx1
  go_wp2_with fail
  refine (HFW.out _ HX1.out).mono ?_
  rintro e w2 ⟨b, rfl, hq, rfl⟩
  cases b with
  | false =>
    clear hq
    go_wp2_with fail
    refine (HAW.out _ HX1.out).mono ?_
    rintro e w3 ⟨rfl, hx3⟩
    have HX3 := Lib.hid (HX1.out.trans hx3)
    clear hx3
    go_wp2
    go_ret
    exact ⟨rfl, HX3.out⟩
  | true =>
    have HF := Lib.hid (hq rfl)
    clear hq
    by_cases hn0 : n = 0
    · subst hn0
      go_wp2_with fail
      refine (HAW.out _ HX1.out).mono ?_
      rintro e w3 ⟨rfl, hx3⟩
      have HX3 := Lib.hid (HX1.out.trans hx3)
      clear hx3
      go_wp2
      go_ret
      exact ⟨rfl, HX3.out⟩
    have hnI : ¬ (n : Int) = 0 := by omega
    have dn : decide ((n : Int) = 0) = false := decide_eq_false hnI
    obtain ⟨i, hi⟩ : ∃ i, x % n = i := ⟨_, rfl⟩
    have him : i < n := by rw [← hi]; exact Nat.mod_lt _ (by omega)
    have htm : Int.tmod (x : Int) (n : Int) = (i : Int) := by rw [← hi]; rfl
    have HP := Lib.hid (HPR.out HF.out i him)
    have HL := Lib.hid (HDB.out HF.out i)
    obtain ⟨ba, oa, R1, k1, rfl, hc1, hl1, hr1⟩ := HRO.out i him
    have HT1 := Lib.hid (fun W (h : Ext w W) => run_load_u8s W _ _ ((h.below.cell (p := ⟨ba, oa + i, none⟩) (block_lt_of_cell hc1)).trans hc1))
    have HSI := Lib.hid (fun W qs D kd (hx : Ext w W) (hq : DRd W D qs) (hkd : qs.length ≤ kd ∧ qs.length ≤ 64) => HSC.out HF.out i him W R1 k1 qs D kd hx hr1 hl1 hq hkd)
    have HYI := Lib.hid (HYS.out HF.out i him)
    have HNI := Lib.hid (HNO.out i him)
    have hiI : (i : Int) < (n : Int) := by omega
    obtain ⟨t1, ht1⟩ : ∃ t, (ro rows i).length = t := ⟨_, rfl⟩
    rw [ht1] at HT1 HSI
    have HIM := Lib.hid him
    clear hi hc1 hl1 hr1 ht1 HSC HYS HNO HRO him
    go_wp2_with fail
    refine (HRT.out HF.out _ HX1.out).mono ?_
    rintro e w3 ⟨rfl, hx3⟩
    have HX3 := Lib.hid (HX1.out.trans hx3)
    have HGD3 := Lib.hid (WBlk.ext' HGD1.out hx3)
    clear hx3
    obtain ⟨gx, hgx⟩ : ∃ g, w3.heap.size = g := ⟨_, rfl⟩
    have HGX := Lib.hid (show (w3.alloc (.cells Z 30)).heap[gx]? = some (.cells Z 30 (0, 0)) from by rw [← hgx]; exact heap_alloc_new _ _)
    have HI := Lib.hid HVR.out.info
    have HO := Lib.hid HVR.out.one
    have HZZ := Lib.hid (show Z.size = VR.size from by rw [HVR.out.1]; exact HZ32.out ())
    have HX34 := Lib.hid (show Ext w3 ((w3.alloc (.cells Z 30)).setRow gx VR) from Ext.setRow ((Ext.refl w3).alloc _) (by rw [← hgx]; exact Nat.le_refl _) VR)
    have HG4 := Lib.hid (setRow_heap _ gx _ VR _ _ HGX.out)
    go_wp2_with (with_reducible refine wpList_store_all rfl 30 (.tmp 8) (.tmp 30) rfl gx Z VR rfl rfl HGX.out HI.out HZZ.out HO.out ?_)
    generalize (w3.alloc (.cells Z 30)).setRow gx VR = w4 at HX34 HG4 ⊢
    clear hgx
    have HX4 := Lib.hid (HX3.out.trans HX34.out)
    have HGD4 := Lib.hid (WBlk.ext' HGD3.out HX34.out)
    refine (HP.out _ HX4.out).mono ?_
    rintro e w5 ⟨v, rfl, hm, hx5⟩
    have HX5 := Lib.hid (HX4.out.trans hx5)
    have HG5 := Lib.hid (WBlk.ext' HG4.out hx5)
    have HGD5 := Lib.hid (WBlk.ext' HGD4.out hx5)
    obtain ⟨B, k, rfl, hk, hrd⟩ := hm.slice
    obtain ⟨P, hP⟩ : ∃ P, mprf sha rows i = P := ⟨_, rfl⟩
    rw [hP] at hk hrd HL HYI HNI ⊢
    have HRD := Lib.hid hrd
    have HK := Lib.hid hk
    obtain ⟨p, hp⟩ : ∃ p, P.length = p := ⟨_, rfl⟩
    have HPL := Lib.hid hp
    rw [hp] at hk HK HL ⊢
    clear hm hk hrd hP hx5 hp
    go_wp2
    obtain ⟨wz, hwz⟩ : ∃ W, W = w5 := ⟨_, rfl⟩
    have LR := Lib.hid (fun (W : World) (h : AfterH w5 W) => show (Instr.loadAt 30 (.pointer (some ⟨gx, 0, none⟩))).run Tryd.prog W = .ok (.agg VR) W from HLB.out W gx (WBlk.ext' HG5.out h))
    have LM := Lib.hid (fun (W : World) (h : AfterH w5 W) => show (Instr.loadAt 30 (.pointer (some ⟨gd, 0, none⟩))).run Tryd.prog W = .ok (.agg VD) W from HLM.out W gd (WBlk.ext' HGD5.out h))
    have LT := Lib.hid (fun (W : World) (h : AfterH w5 W) => show (Instr.loadAt 35 (.pointer (some ⟨ba, oa + i, none⟩))).run Tryd.prog W = .ok (.slice R1 t1 k1) W from HT1.out W (HX5.out.trans h))
    have S1 := Lib.hid (fun (W : World) (h : AfterH w5 W) => show Calls Tryd.prog 16 #[.agg VR, .slice R1 t1 k1, .int .i64 (i : Int), .int .i64 (n : Int), .slice B p k] W (fun e w' => e = .returned (.bool true) ∧ AfterH w5 w') from by have h1 := HSI.out W P B k (HX5.out.trans h) (HRD.out.ext h) ⟨by have := HPL.out; have := HK.out; omega, by have := HPL.out; have := HL.out; omega⟩; rw [HYI.out, HPL.out] at h1; exact h1.mono fun _ _ x => ⟨x.1, Ext.trans h x.2⟩)
    have HS5 := Lib.hid (Nat.le_refl w5.heap.size)
    clear hwz wz
    refine wp_region_plan (AfterH w5) [0, 1, 2, 3, 4, 5, 6, 7, 8, 9, 10, 11, 12, 13, 14, 15, 16, 17, 18, 19, 20, 21, 22, 23, 24, 25, 26, 27, 28, 29] (.yes 0 (.yes 1 (.yes 2 (.yes 3 (.yes 4 (.yes 5 (.yes 6 (.yes 7 (.yes 8 (.yes 9 (.yes 10 (.yes 11 (.one 12 (.yes 13 (.yes 14 (.yes 15 (.yes 16 (.yes 17 (.yes 18 (.yes 19 (.yes 20 (.yes 21 (.yes 22 (.yes 23 (.yes 25 (.yes 27 (.two 24 (.two 26 (.one 28 (.one 29 (.one 30 (.one 31 .done)))) 28 (.one 26 (.one 29 (.one 30 (.one 31 .done))))) 28 (.one 24 (.one 26 (.one 29 (.one 30 (.one 31 .done)))))))))))))))))))))))))))))))) (by kernel_rfl) (fun c a a' w e h => ⟨e ▸ h.1, h.2⟩) (by kernel_rfl) ((Ext.refl w5).drew) ?_
    refine plan_yes rfl (fun K hK => ?_); go_simp; refine ⟨_, fun _ _ => rfl, hK _ ?_⟩; clear hK K
    refine plan_yes rfl (fun K hK => ?_); go_simp; refine ⟨_, fun _ _ => rfl, hK _ ?_⟩; clear hK K
    refine plan_yes rfl (fun K hK => ?_); go_simp; refine ⟨_, fun _ _ => rfl, hK _ ?_⟩; clear hK K
    refine plan_load rfl 30 (.tmp 8) rfl (.agg VR) (by rfl) (fun W hW => LR.out W hW) ?_
    refine plan_yes rfl (fun K hK => ?_); go_simp; refine ⟨_, fun _ _ => rfl, hK _ ?_⟩; clear hK K
    refine plan_yes rfl (fun K hK => ?_); go_simp; refine ⟨_, fun _ _ => rfl, hK _ ?_⟩; clear hK K
    refine plan_yes rfl (fun K hK => ?_); go_simp; refine ⟨_, fun _ _ => rfl, hK _ ?_⟩; clear hK K
    refine plan_load rfl 35 (.tmp 43) rfl (.slice R1 t1 k1) (by rfl) (fun W hW => LT.out W hW) ?_
    refine plan_yes rfl (fun K hK => ?_); go_simp; refine ⟨_, fun _ _ => rfl, hK _ ?_⟩; clear hK K
    refine plan_yes rfl (fun K hK => ?_); go_simp; refine ⟨_, fun _ _ => rfl, hK _ ?_⟩; clear hK K
    refine plan_yes rfl (fun K hK => ?_); go_simp; refine ⟨_, fun _ _ => rfl, hK _ ?_⟩; clear hK K
    refine plan_yes rfl (fun K hK => ?_); go_simp; refine ⟨_, fun _ _ => rfl, hK _ ?_⟩; clear hK K
    refine plan_one rfl (fun K hK => ?_)
    go_wp2_with fail
    refine (S1.out _ ((Ext.refl w5).drew)).mono ?_
    rintro e v6 ⟨rfl, hx6⟩
    have HXv6 := Lib.hid hx6
    clear hx6
    go_wp2
    refine ⟨fun _ => HXv6.out, ?_⟩
    refine plan_yes rfl (fun K hK => ?_); go_simp; refine ⟨_, fun _ _ => rfl, hK _ ?_⟩; clear hK K
    refine plan_yes rfl (fun K hK => ?_); go_simp; refine ⟨_, fun _ _ => rfl, hK _ ?_⟩; clear hK K
    refine plan_yes rfl (fun K hK => ?_); go_simp; refine ⟨_, fun _ _ => rfl, hK _ ?_⟩; clear hK K
    refine plan_load rfl 30 (.tmp 8) rfl (.agg VR) (by rfl) (fun W hW => LR.out W hW) ?_
    refine plan_yes rfl (fun K hK => ?_); go_simp; refine ⟨_, fun _ _ => rfl, hK _ ?_⟩; clear hK K
    refine plan_yes rfl (fun K hK => ?_); go_simp; refine ⟨_, fun _ _ => rfl, hK _ ?_⟩; clear hK K
    refine plan_yes rfl (fun K hK => ?_); go_simp; refine ⟨_, fun _ _ => rfl, hK _ ?_⟩; clear hK K
    refine plan_load rfl 35 (.tmp 56) rfl (.slice R1 t1 k1) (by rfl) (fun W hW => LT.out W hW) ?_
    refine plan_yes rfl (fun K hK => ?_); go_simp; refine ⟨_, fun _ _ => rfl, hK _ ?_⟩; clear hK K
    refine plan_yes rfl (fun K hK => ?_); go_simp; refine ⟨_, fun _ _ => rfl, hK _ ?_⟩; clear hK K
    refine plan_yes rfl (fun K hK => ?_); go_simp; refine ⟨_, fun _ _ => rfl, hK _ ?_⟩; clear hK K
    refine plan_yes rfl (fun K hK => ?_); go_simp; refine ⟨_, fun _ _ => rfl, hK _ ?_⟩; clear hK K
    refine plan_load rfl 30 (.tmp 5) rfl (.agg VD) (by rfl) (fun W hW => LM.out W hW) ?_
  -- the arms
    refine plan_two rfl rfl (fun K hK => ?_) (fun K hK => ?_)
    · skip
      have HXn := Lib.hid (show AfterH w5 (World.alloc v6 (.cells #[] 30)) from Ext.alloc HXv6.out _)
      have HMn := Lib.hid (show DMine (World.alloc v6 (.cells #[] 30)) v6.heap.size (.slice (some ⟨v6.heap.size, 0, none⟩) 0 0) [] from dmine_empty v6)
      have HSn := Lib.hid (show w5.heap.size ≤ v6.heap.size from Ext.size HXv6.out)
      go_wp2
      refine ⟨fun _ => HXn.out, ?_⟩
      obtain ⟨ge, hge⟩ : ∃ g, v6.heap.size = g := ⟨_, rfl⟩
      rw [hge] at HMn HSn ⊢
      generalize World.alloc v6 _ = v624 at HXn HMn ⊢
      have HXv624 := Lib.hid HXn.out
      have HMv624 := Lib.hid HMn.out
      have HSE := Lib.hid HSn.out
      clear HXn HMn HSn hge
      refine plan_two rfl rfl (fun K hK => ?_) (fun K hK => ?_)
      · skip
        refine wpList_append_drd_g (by rfl) (.tmp 61) (.tmp 62) rfl ge _ [] P rfl HMv624.out B p k rfl HPL.out (HRD.out.ext HXv624.out) (by have := HL.out; have := HPL.out; simp; omega) (by have := HMv624.out.block ge rfl; omega) ?_
        intro v' v62426 hm' hg' hb'
        rw [List.nil_append] at hm'
        have HXv62426 := Lib.hid (show AfterH w5 v62426 from Ext.more HXv624.out hg' (fun k e => Nat.le_trans HSE.out (HMv624.out.block k e).1))
        have HMv62426 := Lib.hid (show DMine v62426 w5.heap.size v' P from hm'.down HSE.out)
        clear hm' hg' hb'
        go_wp2
        refine ⟨fun _ => HXv62426.out, ?_⟩
        refine plan_one rfl (fun K hK => ?_)
        have HXn := Lib.hid (show AfterH w5 (World.alloc v62426 (.cells VD 30)) from Ext.alloc HXv62426.out _)
        have HBn := Lib.hid (HLD.out v62426)
        have HLn := Lib.hid (show w5.heap.size ≤ v62426.heap.size from Ext.size HXv62426.out)
        have HMn := Lib.hid (HMv62426.out.ext ((Ext.refl _).alloc (.cells VD 30)))
        have HNn := Lib.hid (fun k e => (HMv62426.out.block k e).2)
        refine wpList_build_dig_g (by rfl) (.tmp 64) rfl VD rfl HVS.out ?_
        go_wp2
        refine ⟨fun _ => HXn.out, ?_⟩
        have HLS := Lib.hid (show (World.alloc v62426 (.cells VD 30)).heap.size = v62426.heap.size + 1 from by simp)
        obtain ⟨gl, hgl⟩ : ∃ g, v62426.heap.size = g := ⟨_, rfl⟩
        rw [hgl] at HBn HLS HNn ⊢
        generalize World.alloc v62426 _ = v6242628 at HXn HBn HLS HMn ⊢
        have HXv6242628 := Lib.hid HXn.out
        have HBv6242628 := Lib.hid HBn.out
        have HLG := Lib.hid (show gl < v6242628.heap.size from by have h := HLS.out; omega)
        clear HXn HBn HLn HLS hgl
        have HMv6242628 := Lib.hid HMn.out
        have HNV := Lib.hid HNn.out
        clear HMn HNn
        refine plan_one rfl (fun K hK => ?_)
        refine wpList_append_drd_g (by rfl) (.tmp 63) (.tmp 65) rfl w5.heap.size _ P [d] rfl HMv6242628.out (some ⟨gl, 0, none⟩) 1 1 rfl rfl HBv6242628.out (by have := HL.out; have := HPL.out; simp; omega) (Ext.size HXv6242628.out) ?_
        intro v7 w7 hm7 hg7 hb7
        have HX7 := Lib.hid (show AfterH w5 w7 from Ext.more HXv6242628.out hg7 (fun k e => (HMv6242628.out.block k e).1))
        obtain ⟨B7, c7, rfl, hc7, hr7⟩ := hm7.slice
        have HR7 := Lib.hid hr7
        have HC7 := Lib.hid hc7
        obtain ⟨qs, hqs⟩ : ∃ q, P ++ [d] = q := ⟨_, rfl⟩
        have HQL := Lib.hid (show qs.length = P.length + 1 from by rw [← hqs]; simp)
        rw [hqs] at HR7 HC7 ⊢
        have S7 := Lib.hid (fun (W : World) (h : Ext w7 W) => show Calls Tryd.prog 16 #[.agg VR, .slice R1 t1 k1, .int .i64 (i : Int), .int .i64 (n : Int), .slice B7 qs.length c7] W (fun e w' => e = .returned (.bool false) ∧ AfterH w5 w') from by have h1 := HSI.out W qs B7 c7 ((HX5.out.trans HX7.out).trans h) (HR7.out.ext h) ⟨HC7.out, by have := HPL.out; have := HL.out; have := HQL.out; omega⟩; rw [HNI.out qs (by have := HQL.out; omega)] at h1; exact h1.mono fun _ _ x => ⟨x.1, Ext.trans HX7.out (h.trans x.2)⟩)
        clear hm7 hg7 hb7 hc7 hr7 hqs
        go_wp2
        refine ⟨fun _ => HX7.out, ?_⟩
        refine plan_one rfl (fun K hK => ?_)
        go_wp2_with fail
        refine (S7.out _ (Ext.refl _)).mono ?_
        rintro e w8 ⟨rfl, hx8⟩
        have HX8 := Lib.hid hx8
        clear hx8
        go_wp2
        refine ⟨fun h => absurd h (by decide), ?_⟩
        refine plan_one rfl (fun K hK => ?_)
        go_wp2
        refine ⟨fun h => absurd h (by decide), ?_⟩
        unfold wpPlan
        go_wp2
        have HX9 := Lib.hid (HX5.out.trans HX8.out)
        have HG9 := Lib.hid (WBlk.ext' HG5.out HX8.out)
        have HR9 := Lib.hid (HRD.out.ext HX8.out)
        clear HX7 HR7 HC7 HQL S7
        by_cases hp0 : p = 0
        · have dp : decide ((p : Int) = 0) = true := decide_eq_true (by omega)
          subst hp0
          go_quiet (skip)
          all_goals (go_wp2; go_ret; exact ⟨rfl, HX9.out.drewN _⟩)
        · have dp : decide ((p : Int) = 0) = false := decide_eq_false (by omega)
          obtain ⟨q, rfl⟩ : ∃ q, p = q + 1 := ⟨p - 1, by omega⟩
          clear hp0
          have HTO := Lib.hid (fun W => run_to_dig B (q + 1) k q (by have := HK.out; omega) W)
          have HQ64 := Lib.hid (show q ≤ 1048577 from by have := HL.out; omega)
          have hw1 := w64_pred q HQ64.out
          have hw3 := i64_nat q HQ64.out
          have hq0 : (0 : Int) ≤ (q : Int) := by omega
          have hqk : (q : Int) ≤ (k : Int) := by have := HK.out; omega
          have hw2 := w64_prd q HQ64.out
          have L9 := Lib.hid (fun (W : World) (h : AfterH w8 W) => show (Instr.loadAt 30 (.pointer (some ⟨gx, 0, none⟩))).run Tryd.prog W = .ok (.agg VR) W from HLB.out W gx (WBlk.ext' HG9.out h))
          have T9 := Lib.hid (fun (W : World) (h : AfterH w8 W) => show (Instr.loadAt 35 (.pointer (some ⟨ba, oa + i, none⟩))).run Tryd.prog W = .ok (.slice R1 t1 k1) W from HT1.out W (HX9.out.trans h))
          have HTL := Lib.hid (show (P.take q).length = q from by rw [List.length_take, HPL.out]; omega)
          have S9 := Lib.hid (fun (W : World) (h : AfterH w8 W) => show Calls Tryd.prog 16 #[.agg VR, .slice R1 t1 k1, .int .i64 (i : Int), .int .i64 (n : Int), .slice B q k] W (fun e w' => e = .returned (.bool false) ∧ AfterH w8 w') from by have h1 := HSI.out W (P.take q) B k (HX9.out.trans h) ((HR9.out.take q).ext h) ⟨by have := HTL.out; have := HK.out; omega, by have := HTL.out; have := HL.out; omega⟩; rw [HNI.out (P.take q) (by have := HTL.out; have := HPL.out; omega), HTL.out] at h1; exact h1.mono fun _ _ x => ⟨x.1, Ext.trans h x.2⟩)
          refine wp_region_quiet (C := AfterH w8) (by kernel_rfl) (by kernel_rfl) (show AfterH w8 w8.drew from (Ext.refl w8).drew) ?_
          refine wpQuiet_step (fun K hK => ?_); go_simp; refine ⟨_, fun _ _ => rfl, hK _ ?_⟩; clear hK K
          refine wpQuiet_step (fun K hK => ?_); go_simp; refine ⟨_, fun _ _ => rfl, hK _ ?_⟩; clear hK K
          refine wpQuiet_step (fun K hK => ?_); go_simp; refine ⟨_, fun _ _ => rfl, hK _ ?_⟩; clear hK K
          refine wpQuiet_step (fun K hK => ?_); go_simp; refine ⟨_, fun _ _ => rfl, hK _ ?_⟩; clear hK K
          refine wpQuiet_load_g (by rfl) 30 (.tmp 8) rfl (.agg VR) (fun W hW => L9.out W hW) ?_
          refine wpQuiet_step (fun K hK => ?_); go_simp; refine ⟨_, fun _ _ => rfl, hK _ ?_⟩; clear hK K
          refine wpQuiet_step (fun K hK => ?_); go_simp; refine ⟨_, fun _ _ => rfl, hK _ ?_⟩; clear hK K
          refine wpQuiet_step (fun K hK => ?_); go_simp; refine ⟨_, fun _ _ => rfl, hK _ ?_⟩; clear hK K
          refine wpQuiet_load_g (by rfl) 35 (.tmp 76) rfl (.slice R1 t1 k1) (fun W hW => T9.out W hW) ?_
          refine wpQuiet_step (fun K hK => ?_); go_simp; refine ⟨_, fun _ _ => rfl, hK _ ?_⟩; clear hK K
          refine wpQuiet_step (fun K hK => ?_); go_simp; refine ⟨_, fun _ _ => rfl, hK _ ?_⟩; clear hK K
          refine wpQuiet_step (fun K hK => ?_); go_simp; refine ⟨_, fun _ _ => rfl, hK _ ?_⟩; clear hK K
          refine wpQuiet_step (fun K hK => ?_); go_simp; refine ⟨_, fun _ _ => rfl, hK _ ?_⟩; clear hK K
          refine wpQuiet_step (fun K hK => ?_); go_simp; refine ⟨_, fun _ _ => rfl, hK _ ?_⟩; clear hK K
          refine wpQuiet_step (fun K hK => ?_); go_simp; refine ⟨_, fun _ _ => rfl, hK _ ?_⟩; clear hK K
          refine wpQuiet_step (fun K hK => ?_); go_simp; refine ⟨_, fun _ _ => rfl, hK _ ?_⟩; clear hK K
          refine wpQuiet_step (fun K hK => ?_); go_simp; refine ⟨_, fun W _ => (by first | exact ⟨rfl, rfl⟩ | rfl), hK _ ?_⟩; clear hK K
          refine wpQuiet_step (fun K hK => ?_); go_simp; refine ⟨_, fun W hW => S9.out W hW, hK _ ?_⟩; clear hK K
          refine wpQuiet_step (fun K hK => ?_); go_simp; refine ⟨_, fun _ _ => rfl, hK _ ?_⟩; clear hK K
          refine wpQuiet_step (fun K hK => ?_); go_simp; refine ⟨_, fun _ _ => rfl, hK _ ?_⟩; clear hK K
          refine wpQuiet_step (fun K hK => ?_); go_simp; refine ⟨_, fun _ _ => rfl, hK _ ?_⟩; clear hK K
          refine wpQuiet_nil ?_
          intro w9 hx9
          have HXE := Lib.hid (HX9.out.trans hx9)
          clear hx9
          go_wp2
          go_ret
          exact ⟨rfl, HXE.out⟩
      · skip
        have HXn := Lib.hid (show AfterH w5 (World.alloc v624 (.cells VD 30)) from Ext.alloc HXv624.out _)
        have HBn := Lib.hid (HLD.out v624)
        have HLn := Lib.hid (show w5.heap.size ≤ v624.heap.size from Ext.size HXv624.out)
        have HMn := Lib.hid (HMv624.out.ext ((Ext.refl _).alloc (.cells VD 30)))
        have HNn := Lib.hid (fun k e => (HMv624.out.block k e).2)
        refine wpList_build_dig_g (by rfl) (.tmp 64) rfl VD rfl HVS.out ?_
        go_wp2
        refine ⟨fun _ => HXn.out, ?_⟩
        have HLS := Lib.hid (show (World.alloc v624 (.cells VD 30)).heap.size = v624.heap.size + 1 from by simp)
        obtain ⟨gl, hgl⟩ : ∃ g, v624.heap.size = g := ⟨_, rfl⟩
        rw [hgl] at HBn HLS HNn ⊢
        generalize World.alloc v624 _ = v62428 at HXn HBn HLS HMn ⊢
        have HXv62428 := Lib.hid HXn.out
        have HBv62428 := Lib.hid HBn.out
        have HLG := Lib.hid (show gl < v62428.heap.size from by have h := HLS.out; omega)
        clear HXn HBn HLn HLS hgl
        have HMv62428 := Lib.hid HMn.out
        have HNV := Lib.hid HNn.out
        clear HMn HNn
        refine plan_one rfl (fun K hK => ?_)
        refine wpList_append_drd_g (by rfl) (.tmp 61) (.tmp 62) rfl ge _ [] P rfl HMv62428.out B p k rfl HPL.out (HRD.out.ext HXv62428.out) (by have := HL.out; have := HPL.out; simp; omega) (by have := HMv62428.out.block ge rfl; omega) ?_
        intro v' v6242826 hm' hg' hb'
        rw [List.nil_append] at hm'
        have HXv6242826 := Lib.hid (show AfterH w5 v6242826 from Ext.more HXv62428.out hg' (fun k e => Nat.le_trans HSE.out (HMv62428.out.block k e).1))
        have HMv6242826 := Lib.hid (show DMine v6242826 w5.heap.size v' P from hm'.down HSE.out)
        have HBv6242826 := Lib.hid (drd_keep HBv62428.out hg' (by first | (intro h; injection h with h; exact HNE.out h.symm) | (intro h; have := HNV.out gl h.symm; omega)))
        clear hm' hg' hb'
        go_wp2
        refine ⟨fun _ => HXv6242826.out, ?_⟩
        refine plan_one rfl (fun K hK => ?_)
        refine wpList_append_drd_g (by rfl) (.tmp 63) (.tmp 65) rfl w5.heap.size _ P [d] rfl HMv6242826.out (some ⟨gl, 0, none⟩) 1 1 rfl rfl HBv6242826.out (by have := HL.out; have := HPL.out; simp; omega) (Ext.size HXv6242826.out) ?_
        intro v7 w7 hm7 hg7 hb7
        have HX7 := Lib.hid (show AfterH w5 w7 from Ext.more HXv6242826.out hg7 (fun k e => (HMv6242826.out.block k e).1))
        obtain ⟨B7, c7, rfl, hc7, hr7⟩ := hm7.slice
        have HR7 := Lib.hid hr7
        have HC7 := Lib.hid hc7
        obtain ⟨qs, hqs⟩ : ∃ q, P ++ [d] = q := ⟨_, rfl⟩
        have HQL := Lib.hid (show qs.length = P.length + 1 from by rw [← hqs]; simp)
        rw [hqs] at HR7 HC7 ⊢
        have S7 := Lib.hid (fun (W : World) (h : Ext w7 W) => show Calls Tryd.prog 16 #[.agg VR, .slice R1 t1 k1, .int .i64 (i : Int), .int .i64 (n : Int), .slice B7 qs.length c7] W (fun e w' => e = .returned (.bool false) ∧ AfterH w5 w') from by have h1 := HSI.out W qs B7 c7 ((HX5.out.trans HX7.out).trans h) (HR7.out.ext h) ⟨HC7.out, by have := HPL.out; have := HL.out; have := HQL.out; omega⟩; rw [HNI.out qs (by have := HQL.out; omega)] at h1; exact h1.mono fun _ _ x => ⟨x.1, Ext.trans HX7.out (h.trans x.2)⟩)
        clear hm7 hg7 hb7 hc7 hr7 hqs
        go_wp2
        refine ⟨fun _ => HX7.out, ?_⟩
        refine plan_one rfl (fun K hK => ?_)
        go_wp2_with fail
        refine (S7.out _ (Ext.refl _)).mono ?_
        rintro e w8 ⟨rfl, hx8⟩
        have HX8 := Lib.hid hx8
        clear hx8
        go_wp2
        refine ⟨fun h => absurd h (by decide), ?_⟩
        refine plan_one rfl (fun K hK => ?_)
        go_wp2
        refine ⟨fun h => absurd h (by decide), ?_⟩
        unfold wpPlan
        go_wp2
        have HX9 := Lib.hid (HX5.out.trans HX8.out)
        have HG9 := Lib.hid (WBlk.ext' HG5.out HX8.out)
        have HR9 := Lib.hid (HRD.out.ext HX8.out)
        clear HX7 HR7 HC7 HQL S7
        by_cases hp0 : p = 0
        · have dp : decide ((p : Int) = 0) = true := decide_eq_true (by omega)
          subst hp0
          go_quiet (skip)
          all_goals (go_wp2; go_ret; exact ⟨rfl, HX9.out.drewN _⟩)
        · have dp : decide ((p : Int) = 0) = false := decide_eq_false (by omega)
          obtain ⟨q, rfl⟩ : ∃ q, p = q + 1 := ⟨p - 1, by omega⟩
          clear hp0
          have HTO := Lib.hid (fun W => run_to_dig B (q + 1) k q (by have := HK.out; omega) W)
          have HQ64 := Lib.hid (show q ≤ 1048577 from by have := HL.out; omega)
          have hw1 := w64_pred q HQ64.out
          have hw3 := i64_nat q HQ64.out
          have hq0 : (0 : Int) ≤ (q : Int) := by omega
          have hqk : (q : Int) ≤ (k : Int) := by have := HK.out; omega
          have hw2 := w64_prd q HQ64.out
          have L9 := Lib.hid (fun (W : World) (h : AfterH w8 W) => show (Instr.loadAt 30 (.pointer (some ⟨gx, 0, none⟩))).run Tryd.prog W = .ok (.agg VR) W from HLB.out W gx (WBlk.ext' HG9.out h))
          have T9 := Lib.hid (fun (W : World) (h : AfterH w8 W) => show (Instr.loadAt 35 (.pointer (some ⟨ba, oa + i, none⟩))).run Tryd.prog W = .ok (.slice R1 t1 k1) W from HT1.out W (HX9.out.trans h))
          have HTL := Lib.hid (show (P.take q).length = q from by rw [List.length_take, HPL.out]; omega)
          have S9 := Lib.hid (fun (W : World) (h : AfterH w8 W) => show Calls Tryd.prog 16 #[.agg VR, .slice R1 t1 k1, .int .i64 (i : Int), .int .i64 (n : Int), .slice B q k] W (fun e w' => e = .returned (.bool false) ∧ AfterH w8 w') from by have h1 := HSI.out W (P.take q) B k (HX9.out.trans h) ((HR9.out.take q).ext h) ⟨by have := HTL.out; have := HK.out; omega, by have := HTL.out; have := HL.out; omega⟩; rw [HNI.out (P.take q) (by have := HTL.out; have := HPL.out; omega), HTL.out] at h1; exact h1.mono fun _ _ x => ⟨x.1, Ext.trans h x.2⟩)
          refine wp_region_quiet (C := AfterH w8) (by kernel_rfl) (by kernel_rfl) (show AfterH w8 w8.drew from (Ext.refl w8).drew) ?_
          refine wpQuiet_step (fun K hK => ?_); go_simp; refine ⟨_, fun _ _ => rfl, hK _ ?_⟩; clear hK K
          refine wpQuiet_step (fun K hK => ?_); go_simp; refine ⟨_, fun _ _ => rfl, hK _ ?_⟩; clear hK K
          refine wpQuiet_step (fun K hK => ?_); go_simp; refine ⟨_, fun _ _ => rfl, hK _ ?_⟩; clear hK K
          refine wpQuiet_step (fun K hK => ?_); go_simp; refine ⟨_, fun _ _ => rfl, hK _ ?_⟩; clear hK K
          refine wpQuiet_load_g (by rfl) 30 (.tmp 8) rfl (.agg VR) (fun W hW => L9.out W hW) ?_
          refine wpQuiet_step (fun K hK => ?_); go_simp; refine ⟨_, fun _ _ => rfl, hK _ ?_⟩; clear hK K
          refine wpQuiet_step (fun K hK => ?_); go_simp; refine ⟨_, fun _ _ => rfl, hK _ ?_⟩; clear hK K
          refine wpQuiet_step (fun K hK => ?_); go_simp; refine ⟨_, fun _ _ => rfl, hK _ ?_⟩; clear hK K
          refine wpQuiet_load_g (by rfl) 35 (.tmp 76) rfl (.slice R1 t1 k1) (fun W hW => T9.out W hW) ?_
          refine wpQuiet_step (fun K hK => ?_); go_simp; refine ⟨_, fun _ _ => rfl, hK _ ?_⟩; clear hK K
          refine wpQuiet_step (fun K hK => ?_); go_simp; refine ⟨_, fun _ _ => rfl, hK _ ?_⟩; clear hK K
          refine wpQuiet_step (fun K hK => ?_); go_simp; refine ⟨_, fun _ _ => rfl, hK _ ?_⟩; clear hK K
          refine wpQuiet_step (fun K hK => ?_); go_simp; refine ⟨_, fun _ _ => rfl, hK _ ?_⟩; clear hK K
          refine wpQuiet_step (fun K hK => ?_); go_simp; refine ⟨_, fun _ _ => rfl, hK _ ?_⟩; clear hK K
          refine wpQuiet_step (fun K hK => ?_); go_simp; refine ⟨_, fun _ _ => rfl, hK _ ?_⟩; clear hK K
          refine wpQuiet_step (fun K hK => ?_); go_simp; refine ⟨_, fun _ _ => rfl, hK _ ?_⟩; clear hK K
          refine wpQuiet_step (fun K hK => ?_); go_simp; refine ⟨_, fun W _ => (by first | exact ⟨rfl, rfl⟩ | rfl), hK _ ?_⟩; clear hK K
          refine wpQuiet_step (fun K hK => ?_); go_simp; refine ⟨_, fun W hW => S9.out W hW, hK _ ?_⟩; clear hK K
          refine wpQuiet_step (fun K hK => ?_); go_simp; refine ⟨_, fun _ _ => rfl, hK _ ?_⟩; clear hK K
          refine wpQuiet_step (fun K hK => ?_); go_simp; refine ⟨_, fun _ _ => rfl, hK _ ?_⟩; clear hK K
          refine wpQuiet_step (fun K hK => ?_); go_simp; refine ⟨_, fun _ _ => rfl, hK _ ?_⟩; clear hK K
          refine wpQuiet_nil ?_
          intro w9 hx9
          have HXE := Lib.hid (HX9.out.trans hx9)
          clear hx9
          go_wp2
          go_ret
          exact ⟨rfl, HXE.out⟩
    · skip
      have HXn := Lib.hid (show AfterH w5 (World.alloc v6 (.cells VD 30)) from Ext.alloc HXv6.out _)
      have HBn := Lib.hid (HLD.out v6)
      have HLn := Lib.hid (show w5.heap.size ≤ v6.heap.size from Ext.size HXv6.out)
      refine wpList_build_dig_g (by rfl) (.tmp 64) rfl VD rfl HVS.out ?_
      go_wp2
      refine ⟨fun _ => HXn.out, ?_⟩
      have HLS := Lib.hid (show (World.alloc v6 (.cells VD 30)).heap.size = v6.heap.size + 1 from by simp)
      obtain ⟨gl, hgl⟩ : ∃ g, v6.heap.size = g := ⟨_, rfl⟩
      rw [hgl] at HBn HLS ⊢
      generalize World.alloc v6 _ = v628 at HXn HBn HLS ⊢
      have HXv628 := Lib.hid HXn.out
      have HBv628 := Lib.hid HBn.out
      have HLG := Lib.hid (show gl < v628.heap.size from by have h := HLS.out; omega)
      clear HXn HBn HLn HLS hgl
      refine plan_one rfl (fun K hK => ?_)
      have HXn := Lib.hid (show AfterH w5 (World.alloc v628 (.cells #[] 30)) from Ext.alloc HXv628.out _)
      have HMn := Lib.hid (show DMine (World.alloc v628 (.cells #[] 30)) v628.heap.size (.slice (some ⟨v628.heap.size, 0, none⟩) 0 0) [] from dmine_empty v628)
      have HSn := Lib.hid (show w5.heap.size ≤ v628.heap.size from Ext.size HXv628.out)
      have HBn := Lib.hid (HBv628.out.ext ((Ext.refl _).alloc (.cells #[] 30)))
      have HLn := Lib.hid (show gl < v628.heap.size from by have h := HLG.out; omega)
      go_wp2
      refine ⟨fun _ => HXn.out, ?_⟩
      obtain ⟨ge, hge⟩ : ∃ g, v628.heap.size = g := ⟨_, rfl⟩
      rw [hge] at HMn HSn HLn ⊢
      generalize World.alloc v628 _ = v62824 at HXn HMn HBn ⊢
      have HXv62824 := Lib.hid HXn.out
      have HMv62824 := Lib.hid HMn.out
      have HSE := Lib.hid HSn.out
      clear HXn HMn HSn hge
      have HBv62824 := Lib.hid HBn.out
      have HNE := Lib.hid (show ge ≠ gl from by have h := HLn.out; omega)
      clear HBn HLn
      refine plan_one rfl (fun K hK => ?_)
      refine wpList_append_drd_g (by rfl) (.tmp 61) (.tmp 62) rfl ge _ [] P rfl HMv62824.out B p k rfl HPL.out (HRD.out.ext HXv62824.out) (by have := HL.out; have := HPL.out; simp; omega) (by have := HMv62824.out.block ge rfl; omega) ?_
      intro v' v6282426 hm' hg' hb'
      rw [List.nil_append] at hm'
      have HXv6282426 := Lib.hid (show AfterH w5 v6282426 from Ext.more HXv62824.out hg' (fun k e => Nat.le_trans HSE.out (HMv62824.out.block k e).1))
      have HMv6282426 := Lib.hid (show DMine v6282426 w5.heap.size v' P from hm'.down HSE.out)
      have HBv6282426 := Lib.hid (drd_keep HBv62824.out hg' (by first | (intro h; injection h with h; exact HNE.out h.symm) | (intro h; have := HNV.out gl h.symm; omega)))
      clear hm' hg' hb'
      go_wp2
      refine ⟨fun _ => HXv6282426.out, ?_⟩
      refine plan_one rfl (fun K hK => ?_)
      refine wpList_append_drd_g (by rfl) (.tmp 63) (.tmp 65) rfl w5.heap.size _ P [d] rfl HMv6282426.out (some ⟨gl, 0, none⟩) 1 1 rfl rfl HBv6282426.out (by have := HL.out; have := HPL.out; simp; omega) (Ext.size HXv6282426.out) ?_
      intro v7 w7 hm7 hg7 hb7
      have HX7 := Lib.hid (show AfterH w5 w7 from Ext.more HXv6282426.out hg7 (fun k e => (HMv6282426.out.block k e).1))
      obtain ⟨B7, c7, rfl, hc7, hr7⟩ := hm7.slice
      have HR7 := Lib.hid hr7
      have HC7 := Lib.hid hc7
      obtain ⟨qs, hqs⟩ : ∃ q, P ++ [d] = q := ⟨_, rfl⟩
      have HQL := Lib.hid (show qs.length = P.length + 1 from by rw [← hqs]; simp)
      rw [hqs] at HR7 HC7 ⊢
      have S7 := Lib.hid (fun (W : World) (h : Ext w7 W) => show Calls Tryd.prog 16 #[.agg VR, .slice R1 t1 k1, .int .i64 (i : Int), .int .i64 (n : Int), .slice B7 qs.length c7] W (fun e w' => e = .returned (.bool false) ∧ AfterH w5 w') from by have h1 := HSI.out W qs B7 c7 ((HX5.out.trans HX7.out).trans h) (HR7.out.ext h) ⟨HC7.out, by have := HPL.out; have := HL.out; have := HQL.out; omega⟩; rw [HNI.out qs (by have := HQL.out; omega)] at h1; exact h1.mono fun _ _ x => ⟨x.1, Ext.trans HX7.out (h.trans x.2)⟩)
      clear hm7 hg7 hb7 hc7 hr7 hqs
      go_wp2
      refine ⟨fun _ => HX7.out, ?_⟩
      refine plan_one rfl (fun K hK => ?_)
      go_wp2_with fail
      refine (S7.out _ (Ext.refl _)).mono ?_
      rintro e w8 ⟨rfl, hx8⟩
      have HX8 := Lib.hid hx8
      clear hx8
      go_wp2
      refine ⟨fun h => absurd h (by decide), ?_⟩
      refine plan_one rfl (fun K hK => ?_)
      go_wp2
      refine ⟨fun h => absurd h (by decide), ?_⟩
      unfold wpPlan
      go_wp2
      have HX9 := Lib.hid (HX5.out.trans HX8.out)
      have HG9 := Lib.hid (WBlk.ext' HG5.out HX8.out)
      have HR9 := Lib.hid (HRD.out.ext HX8.out)
      clear HX7 HR7 HC7 HQL S7
      by_cases hp0 : p = 0
      · have dp : decide ((p : Int) = 0) = true := decide_eq_true (by omega)
        subst hp0
        go_quiet (skip)
        all_goals (go_wp2; go_ret; exact ⟨rfl, HX9.out.drewN _⟩)
      · have dp : decide ((p : Int) = 0) = false := decide_eq_false (by omega)
        obtain ⟨q, rfl⟩ : ∃ q, p = q + 1 := ⟨p - 1, by omega⟩
        clear hp0
        have HTO := Lib.hid (fun W => run_to_dig B (q + 1) k q (by have := HK.out; omega) W)
        have HQ64 := Lib.hid (show q ≤ 1048577 from by have := HL.out; omega)
        have hw1 := w64_pred q HQ64.out
        have hw3 := i64_nat q HQ64.out
        have hq0 : (0 : Int) ≤ (q : Int) := by omega
        have hqk : (q : Int) ≤ (k : Int) := by have := HK.out; omega
        have hw2 := w64_prd q HQ64.out
        have L9 := Lib.hid (fun (W : World) (h : AfterH w8 W) => show (Instr.loadAt 30 (.pointer (some ⟨gx, 0, none⟩))).run Tryd.prog W = .ok (.agg VR) W from HLB.out W gx (WBlk.ext' HG9.out h))
        have T9 := Lib.hid (fun (W : World) (h : AfterH w8 W) => show (Instr.loadAt 35 (.pointer (some ⟨ba, oa + i, none⟩))).run Tryd.prog W = .ok (.slice R1 t1 k1) W from HT1.out W (HX9.out.trans h))
        have HTL := Lib.hid (show (P.take q).length = q from by rw [List.length_take, HPL.out]; omega)
        have S9 := Lib.hid (fun (W : World) (h : AfterH w8 W) => show Calls Tryd.prog 16 #[.agg VR, .slice R1 t1 k1, .int .i64 (i : Int), .int .i64 (n : Int), .slice B q k] W (fun e w' => e = .returned (.bool false) ∧ AfterH w8 w') from by have h1 := HSI.out W (P.take q) B k (HX9.out.trans h) ((HR9.out.take q).ext h) ⟨by have := HTL.out; have := HK.out; omega, by have := HTL.out; have := HL.out; omega⟩; rw [HNI.out (P.take q) (by have := HTL.out; have := HPL.out; omega), HTL.out] at h1; exact h1.mono fun _ _ x => ⟨x.1, Ext.trans h x.2⟩)
        refine wp_region_quiet (C := AfterH w8) (by kernel_rfl) (by kernel_rfl) (show AfterH w8 w8.drew from (Ext.refl w8).drew) ?_
        refine wpQuiet_step (fun K hK => ?_); go_simp; refine ⟨_, fun _ _ => rfl, hK _ ?_⟩; clear hK K
        refine wpQuiet_step (fun K hK => ?_); go_simp; refine ⟨_, fun _ _ => rfl, hK _ ?_⟩; clear hK K
        refine wpQuiet_step (fun K hK => ?_); go_simp; refine ⟨_, fun _ _ => rfl, hK _ ?_⟩; clear hK K
        refine wpQuiet_step (fun K hK => ?_); go_simp; refine ⟨_, fun _ _ => rfl, hK _ ?_⟩; clear hK K
        refine wpQuiet_load_g (by rfl) 30 (.tmp 8) rfl (.agg VR) (fun W hW => L9.out W hW) ?_
        refine wpQuiet_step (fun K hK => ?_); go_simp; refine ⟨_, fun _ _ => rfl, hK _ ?_⟩; clear hK K
        refine wpQuiet_step (fun K hK => ?_); go_simp; refine ⟨_, fun _ _ => rfl, hK _ ?_⟩; clear hK K
        refine wpQuiet_step (fun K hK => ?_); go_simp; refine ⟨_, fun _ _ => rfl, hK _ ?_⟩; clear hK K
        refine wpQuiet_load_g (by rfl) 35 (.tmp 76) rfl (.slice R1 t1 k1) (fun W hW => T9.out W hW) ?_
        refine wpQuiet_step (fun K hK => ?_); go_simp; refine ⟨_, fun _ _ => rfl, hK _ ?_⟩; clear hK K
        refine wpQuiet_step (fun K hK => ?_); go_simp; refine ⟨_, fun _ _ => rfl, hK _ ?_⟩; clear hK K
        refine wpQuiet_step (fun K hK => ?_); go_simp; refine ⟨_, fun _ _ => rfl, hK _ ?_⟩; clear hK K
        refine wpQuiet_step (fun K hK => ?_); go_simp; refine ⟨_, fun _ _ => rfl, hK _ ?_⟩; clear hK K
        refine wpQuiet_step (fun K hK => ?_); go_simp; refine ⟨_, fun _ _ => rfl, hK _ ?_⟩; clear hK K
        refine wpQuiet_step (fun K hK => ?_); go_simp; refine ⟨_, fun _ _ => rfl, hK _ ?_⟩; clear hK K
        refine wpQuiet_step (fun K hK => ?_); go_simp; refine ⟨_, fun _ _ => rfl, hK _ ?_⟩; clear hK K
        refine wpQuiet_step (fun K hK => ?_); go_simp; refine ⟨_, fun W _ => (by first | exact ⟨rfl, rfl⟩ | rfl), hK _ ?_⟩; clear hK K
        refine wpQuiet_step (fun K hK => ?_); go_simp; refine ⟨_, fun W hW => S9.out W hW, hK _ ?_⟩; clear hK K
        refine wpQuiet_step (fun K hK => ?_); go_simp; refine ⟨_, fun _ _ => rfl, hK _ ?_⟩; clear hK K
        refine wpQuiet_step (fun K hK => ?_); go_simp; refine ⟨_, fun _ _ => rfl, hK _ ?_⟩; clear hK K
        refine wpQuiet_step (fun K hK => ?_); go_simp; refine ⟨_, fun _ _ => rfl, hK _ ?_⟩; clear hK K
        refine wpQuiet_nil ?_
        intro w9 hx9
        have HXE := Lib.hid (HX9.out.trans hx9)
        clear hx9
        go_wp2
        go_ret
        exact ⟨rfl, HXE.out⟩
end Go.Proofs.YthbfodmpoheahaaDoor

/-
  What join of layer 11 does. Conditions: two digests; the constants of layer 10 lie where they were laid.
-/
namespace Go.Proofs.YthbfodmpoheahaaDoor
open Go.RowKit
open Pol (co Sm)

set_option maxHeartbeats 1000000 in
set_option maxRecDepth 100000 in
theorem mk_join (S : ShaOH) (a b : List Nat) (w : World) (hgl : GL w) (ha : a.length = 32) (hb : b.length = 32) (hsa : Sm a) (hsb : Sm b) :
    Calls Tryd.prog 27 #[dgv a, dgv b] w (Tells (dgv (nd sha a b)) w) := by
  obtain ⟨g0, hg0⟩ : ∃ g, w.heap.size = g := ⟨_, rfl⟩
  have HW0 := Lib.hid hg0
  have HT := Lib.hid (show ([[1], a, b] : List (List Nat)).flatten = 1 :: (a ++ b) ∧ Sm (1 :: (a ++ b)) ∧ (1 :: (a ++ b)).length = 65 from ⟨by simp, Sm.cons (by omega) (sm_app hsa hsb), by simp [ha, hb]⟩)
  have HOF := Lib.hid (fun A c W (hg : GL W) (h : Rd W A (1 :: (a ++ b))) (hc : (1 :: (a ++ b)).length ≤ c) => S.of (1 :: (a ++ b)) A c W hg h hc (by rw [HT.out.2.2]; omega))
  have HCT := Lib.hid (fun A c W (h : RRd W A [[1], a, b]) => show Calls Tryd.prog 42 #[.slice A 3 c] W (CloneS ([[1], a, b] : List (List Nat)).flatten W) from mk_cat [[1], a, b] A c W h (by simp) (by rw [HT.out.1, HT.out.2.2]; omega))
  rw [HT.out.1] at HCT
  rw [HT.out.2.2] at HOF
  have HGL := Lib.hid hgl
  have hz := zero_digest.1
  have HZ32 := Lib.hid (fun (_ : Unit) => show (bt 32 fun _ => 0).size = 32 from bt_size _ _)
  obtain ⟨Z, hZ⟩ : ∃ Z, (bt 32 fun _ => 0) = Z := ⟨_, rfl⟩
  rw [hZ] at hz HZ32
  unfold DgS at HOF
  unfold CloneS at HCT
  have HL := Lib.hid (show sha (1 :: (a ++ b)) = nd sha a b from rfl)
  rw [HL.out] at HOF
  clear HL
  obtain ⟨D, hD⟩ : ∃ D, nd sha a b = D := ⟨_, rfl⟩
  rw [hD] at HOF ⊢
  unfold dgv
  have HRA := Lib.hid (fun (W : World) (g : Nat) (h : W.heap[g]? = some (.cells (bt 32 (co a)) 30 (0, 0))) => show Sl W (.slice (some ⟨g, 0, none⟩) 32 32) a from ⟨_, 32, by rw [ha], by omega, rd_of_blk h ha hsa⟩)
  have HRB := Lib.hid (fun (W : World) (g : Nat) (h : W.heap[g]? = some (.cells (bt 32 (co b)) 30 (0, 0))) => show Sl W (.slice (some ⟨g, 0, none⟩) 32 32) b from ⟨_, 32, by rw [hb], by omega, rd_of_blk h hb hsb⟩)
  obtain ⟨VA, hVA⟩ : ∃ V, bt 32 (co a) = V := ⟨_, rfl⟩
  obtain ⟨VB, hVB⟩ : ∃ V, bt 32 (co b) = V := ⟨_, rfl⟩
  rw [hVA] at HRA ⊢
  rw [hVB] at HRB ⊢
  obtain ⟨VD, hVD⟩ : ∃ V, bt 32 (co D) = V := ⟨_, rfl⟩
  have HVD := Lib.hid (fun (_ : Unit) => hVD)
  rw [hVD]
  have hx1 := (((Ext.refl w).alloc (.cells VA 30)).alloc (.cells VB 30)).alloc (.cells Z 30)
  have hs1 : (((w.alloc (.cells VA 30)).alloc (.cells VB 30)).alloc (.cells Z 30)).heap.size = g0 + 3 := by rw [← hg0]; simp
  have hr0 : (((w.alloc (.cells VA 30)).alloc (.cells VB 30)).alloc (.cells Z 30)).heap[g0]? = some (.cells VA 30 (0, 0)) := by
    rw [heap_alloc_old _ _ (by simp; omega), heap_alloc_old _ _ (by simp; omega), ← hg0]; exact heap_alloc_new w _
  have hr1 : (((w.alloc (.cells VA 30)).alloc (.cells VB 30)).alloc (.cells Z 30)).heap[g0 + 1]? = some (.cells VB 30 (0, 0)) := by
    have h := heap_alloc_new (w.alloc (.cells VA 30)) (.cells VB 30)
    rw [show (w.alloc (.cells VA 30)).heap.size = g0 + 1 from by rw [← hg0]; simp] at h
    rw [heap_alloc_old _ _ (by simp; omega)]; exact h
  have hr2 : (((w.alloc (.cells VA 30)).alloc (.cells VB 30)).alloc (.cells Z 30)).heap[g0 + 2]? = some (.cells Z 30 (0, 0)) := by
    have h := heap_alloc_new ((w.alloc (.cells VA 30)).alloc (.cells VB 30)) (.cells Z 30)
    rw [show ((w.alloc (.cells VA 30)).alloc (.cells VB 30)).heap.size = g0 + 2 from by rw [← hg0]; simp] at h
    exact h
  obtain ⟨w1, hw1⟩ : ∃ q, ((w.alloc (.cells VA 30)).alloc (.cells VB 30)).alloc (.cells Z 30) = q := ⟨_, rfl⟩
  rw [hw1] at hx1 hs1 hr0 hr1 hr2
  have HW1 := Lib.hid hw1
  have HX1 := Lib.hid hx1
  have HR2 := Lib.hid hr2
  obtain ⟨u, hu⟩ : ∃ u, w1.drew = u := ⟨_, rfl⟩
  have HU := Lib.hid hu
  have HXU := Lib.hid (show Ext w1 u from by rw [← hu]; exact (Ext.refl w1).drew)
  have HSU := Lib.hid (show u.heap.size = g0 + 3 from by rw [← hu, ← hs1]; rfl)
  have HXB := Lib.hid (show Ext w1 (u.alloc (.cells #[.int .u8 1] 5)) from HXU.out.alloc _)
  have HRV := Lib.hid (show RowsV (u.alloc (.cells #[.int .u8 1] 5)) [.slice (some ⟨g0 + 3, 0, none⟩) 1 1, .slice (some ⟨g0, 0, none⟩) 32 32, .slice (some ⟨g0 + 1, 0, none⟩) 32 32] [[1], a, b] from rowsV_3 (sl_lit1 u (g0 + 3) 1 (by omega) HSU.out) ((HRA.out w1 g0 hr0).ext HXB.out) ((HRB.out w1 (g0 + 1) hr1).ext HXB.out))
  have HS2 := Lib.hid (show (u.alloc (.cells #[.int .u8 1] 5)).heap.size = g0 + 3 + 1 from by rw [← HSU.out]; simp)
  have HRR := Lib.hid (show RRd ((u.alloc (.cells #[.int .u8 1] 5)).alloc (.cells #[.slice (some ⟨g0 + 3, 0, none⟩) 1 1, .slice (some ⟨g0, 0, none⟩) 32 32, .slice (some ⟨g0 + 1, 0, none⟩) 32 32] 35)) (some ⟨g0 + 3 + 1, 0, none⟩) [[1], a, b] from by
    have h := rrd_lit _ _ _ HRV.out
    rw [HS2.out] at h
    exact h)
  have HX3 := Lib.hid (show Ext w1 ((u.alloc (.cells #[.int .u8 1] 5)).alloc (.cells #[.slice (some ⟨g0 + 3, 0, none⟩) 1 1, .slice (some ⟨g0, 0, none⟩) 32 32, .slice (some ⟨g0 + 1, 0, none⟩) 32 32] 35)) from HXB.out.alloc _)
  clear hx1 hr0 hr1 hr2 hw1 hs1 hVA hVB hVD hD hZ ha hb hsa hsb HRA HRB hgl hu HRV
  go_enter Tryd.func27, Tryd.ntmps27
  go_wp2
  rw [HW1.out]
  have hsu := HSU.out
  refine wp_region_plan (AfterH w1) [0, 1, 2, 3, 4, 5] (.yes 1 (.yes 2 (.one 0 (.one 3 (.one 4 (.one 5 (.one 6 .done))))))) (by kernel_rfl) (fun c a a' w e h => ⟨e ▸ h.1, h.2⟩) (by kernel_rfl) ((Ext.refl w1).drew) ?_
  rw [HU.out]
  refine plan_yes rfl (fun K hK => ?_); go_simp; refine ⟨_, fun _ _ => rfl, hK _ ?_⟩; clear hK K
  refine plan_yes rfl (fun K hK => ?_); go_simp; refine ⟨_, fun _ _ => rfl, hK _ ?_⟩; clear hK K
  refine plan_one rfl (fun K hK => ?_)
  go_wp2
  refine ⟨fun _ => HXB.out, ?_⟩
  refine plan_one rfl (fun K hK => ?_)
  go_wp2
  refine ⟨fun _ => HX3.out, ?_⟩
  refine plan_one rfl (fun K hK => ?_)
  go_wp2_with fail
  refine (HCT.out _ 3 _ HRR.out).mono ?_
  rintro e w5 ⟨hx5, v5, rfl, hm5⟩
  obtain ⟨B5, c5, rfl, hc5, hr5⟩ := hm5.slice HT.out.2.1
  rw [HT.out.2.2] at hc5 ⊢
  have HX5 := Lib.hid (HX3.out.trans hx5)
  have HR5 := Lib.hid hr5
  have HC5 := Lib.hid hc5
  clear hx5 hm5 hr5 hc5
  go_wp2
  refine ⟨fun _ => HX5.out, ?_⟩
  refine plan_one rfl (fun K hK => ?_)
  go_wp2_with fail
  refine (HOF.out B5 c5 w5 (HGL.out.ext (HX1.out.trans HX5.out)) HR5.out HC5.out).mono ?_
  rintro e w9 ⟨V, rfl, hV, hx9⟩
  have HV := Lib.hid hV
  have HX9 := Lib.hid (HX5.out.trans hx9)
  have HR9 := Lib.hid (WBlk.ext' HR2.out HX9.out)
  have HI9 := Lib.hid hV.info
  have HO9 := Lib.hid hV.one
  have HZ9 := Lib.hid (show Z.size = V.size from by rw [hV.1]; exact HZ32.out ())
  have HG3 := Lib.hid (setRow_heap _ (g0 + 2) _ V _ _ HR9.out)
  have HXX := Lib.hid ((HX1.out.trans HX9.out).setRow (g := g0 + 2) (by rw [HW0.out]; omega) V)
  clear hV hx9
  go_wp2
  refine ⟨fun _ => HX9.out, ?_⟩
  refine plan_one rfl (fun K hK => ?_)
  go_wp2_with (with_reducible refine wpList_store_all rfl 30 (.tmp 4) (.tmp 10) rfl (g0 + 2) Z V rfl rfl HR9.out HI9.out HZ9.out HO9.out ?_)
  refine ⟨fun h => absurd h (by decide), ?_⟩
  unfold wpPlan
  go_wp2
  exact ⟨rfl, .agg V, results_cell_row Tryd.results27 _ _ (g0 + 2) 30 V (0, 0) _ rfl HG3.out Tryd.underlying30 rfl HI9.out, by rw [HV.out.is, HVD.out ()], HXX.out⟩
end Go.Proofs.YthbfodmpoheahaaDoor

/-
  What math/bits.Len and left of layer 11 do. Conditions: a number below 2^24, above 0; above 1.
-/
namespace Go.Proofs.YthbfodmpoheahaaDoor
open Go.RowKit

set_option maxRecDepth 100000 in
theorem len8_log : ∀ y : Nat, y < 256 → 0 < y → Lib.len8 (y : Int) = ((Nat.log2 y + 1 : Nat) : Int) := by decide +kernel
theorem len8_rng (y : Nat) (h : y < 256) (h0 : 0 < y) : 0 ≤ Lib.len8 (y : Int) ∧ Lib.len8 (y : Int) ≤ 8 := by
  rw [len8_log y h h0]
  have := (Nat.log2_lt (n := y) (k := 8) (by omega)).2 (by simpa using h)
  omega
theorem log2_shift (x s : Nat) (h : 0 < x / 2 ^ s) : Nat.log2 x = s + Nat.log2 (x / 2 ^ s) := by
  have hp := Nat.two_pow_pos s
  have h1 := Nat.log2_self_le (n := x / 2 ^ s) (by omega)
  have h2 := Nat.lt_log2_self (n := x / 2 ^ s)
  refine log2_mid ?_ ?_
  · rw [Nat.pow_add, Nat.mul_comm]
    exact Nat.le_trans (Nat.mul_le_mul_right _ h1) (Nat.div_mul_le_self _ _)
  · rw [Nat.add_assoc, Nat.pow_add, Nat.mul_comm]
    exact (Nat.div_lt_iff_lt_mul hp).1 h2
set_option maxHeartbeats 800000 in
set_option maxRecDepth 100000 in
theorem mk_len64 (x : Nat) (w : World) (hx : x < 16777216) (h0 : 0 < x) :
    Calls Tryd.prog 58 #[.int .u64 (x : Int)] w (fun e w' => e = .returned (.int .i64 ((Nat.log2 x + 1 : Nat) : Int)) ∧ w = w') := by
  have d0 : decide ((x : Int) ≥ 4294967296) = false := decide_eq_false (by omega)
  obtain ⟨R, hR⟩ : ∃ R, Nat.log2 x + 1 = R := ⟨_, rfl⟩
  have HR := Lib.hid hR
  rw [hR]
  clear hR
  by_cases h1 : 65536 ≤ x
  · obtain ⟨y, hy⟩ : ∃ y, x / 65536 = y := ⟨_, rfl⟩
    have hyb : y < 256 := by omega
    have hy0 : 0 < y := by omega
    have e1 : (x : Int) / 2 ^ 16 = (y : Int) := by rw [← hy]; simp
    have e1' : (x : Int) / 65536 = (y : Int) := by omega
    have d1 : decide ((x : Int) ≥ 65536) = true := decide_eq_true (by omega)
    have d2 : decide ((y : Int) ≥ 256) = false := decide_eq_false (by omega)
    have hl := len8_rng y hyb hy0
    have HL := Lib.hid (show (16 : Int) + Lib.len8 (y : Int) = (R : Int) from by
      have h := log2_shift x 16 (by simpa [hy] using hy0)
      rw [show x / 2 ^ 16 = y from by simpa using hy] at h
      rw [len8_log y hyb hy0, ← HR.out, h]
      omega)
    have e2 : IntKind.u8.wrap (y : Int) = (y : Int) := by rw [IntKind.wrap_u8]; omega
    have q0 : (0 : Int) ≤ (y : Int) := by omega
    have q1 : (y : Int) ≤ 255 := by omega
    have e3 : IntKind.i64.wrap (Lib.len8 (y : Int)) = Lib.len8 (y : Int) := by rw [IntKind.wrap_i64]; omega
    have e4 : IntKind.i64.wrap ((16 : Int) + Lib.len8 (y : Int)) = (R : Int) := by rw [HL.out, IntKind.wrap_i64]; have := HL.out; omega
    have e5 : wrap64 ((16 : Int) + Lib.len8 (y : Int)) = (R : Int) := by rw [HL.out]; unfold wrap64; have := HL.out; omega
    clear hy
    go_enter Tryd.func58, Tryd.ntmps58
    go_wp2
    go_ret
    exact ⟨rfl, rfl⟩
  · have d1 : decide ((x : Int) ≥ 65536) = false := decide_eq_false (by omega)
    by_cases h2 : 256 ≤ x
    · obtain ⟨y, hy⟩ : ∃ y, x / 256 = y := ⟨_, rfl⟩
      have hyb : y < 256 := by omega
      have hy0 : 0 < y := by omega
      have e1 : (x : Int) / 2 ^ 8 = (y : Int) := by rw [← hy]; simp
      have e1' : (x : Int) / 256 = (y : Int) := by omega
      have d2 : decide ((x : Int) ≥ 256) = true := decide_eq_true (by omega)
      have hl := len8_rng y hyb hy0
      have HL := Lib.hid (show (8 : Int) + Lib.len8 (y : Int) = (R : Int) from by
        have h := log2_shift x 8 (by simpa [hy] using hy0)
        rw [show x / 2 ^ 8 = y from by simpa using hy] at h
        rw [len8_log y hyb hy0, ← HR.out, h]
        omega)
      have e2 : IntKind.u8.wrap (y : Int) = (y : Int) := by rw [IntKind.wrap_u8]; omega
      have q0 : (0 : Int) ≤ (y : Int) := by omega
      have q1 : (y : Int) ≤ 255 := by omega
      have e3 : IntKind.i64.wrap (Lib.len8 (y : Int)) = Lib.len8 (y : Int) := by rw [IntKind.wrap_i64]; omega
      have e4 : IntKind.i64.wrap ((8 : Int) + Lib.len8 (y : Int)) = (R : Int) := by rw [HL.out, IntKind.wrap_i64]; have := HL.out; omega
      have e5 : wrap64 ((8 : Int) + Lib.len8 (y : Int)) = (R : Int) := by rw [HL.out]; unfold wrap64; have := HL.out; omega
      clear hy
      go_enter Tryd.func58, Tryd.ntmps58
      go_wp2
      go_ret
      exact ⟨rfl, rfl⟩
    · have hyb : x < 256 := by omega
      have d2 : decide ((x : Int) ≥ 256) = false := decide_eq_false (by omega)
      have hl := len8_rng x hyb h0
      have HL := Lib.hid (show Lib.len8 (x : Int) = (R : Int) from by
        rw [len8_log x hyb h0, ← HR.out])
      have e2 : IntKind.u8.wrap (x : Int) = (x : Int) := by rw [IntKind.wrap_u8]; omega
      have q0 : (0 : Int) ≤ (x : Int) := by omega
      have q1 : (x : Int) ≤ 255 := by omega
      have e3 : IntKind.i64.wrap (Lib.len8 (x : Int)) = Lib.len8 (x : Int) := by rw [IntKind.wrap_i64]; omega
      have e4 : IntKind.i64.wrap (Lib.len8 (x : Int)) = (R : Int) := by rw [e3]; exact HL.out
      have e5 : wrap64 (Lib.len8 (x : Int)) = (R : Int) := by rw [HL.out]; unfold wrap64; have := HL.out; omega
      have e6 : Lib.len8 (x : Int) = (R : Int) := HL.out
      go_enter Tryd.func58, Tryd.ntmps58
      go_wp2
      go_ret
      exact ⟨rfl, rfl⟩
set_option maxHeartbeats 400000 in
theorem mk_len (x : Nat) (w : World) (hx : x < 16777216) (h0 : 0 < x) :
    Calls Tryd.prog 43 #[.int .u64 (x : Int)] w (fun e w' => e = .returned (.int .i64 ((Nat.log2 x + 1 : Nat) : Int)) ∧ w = w') := by
  have HC := Lib.hid (fun W => mk_len64 x W hx h0)
  obtain ⟨R, hR⟩ : ∃ R, Nat.log2 x + 1 = R := ⟨_, rfl⟩
  rw [hR] at HC ⊢
  clear hR
  go_enter Tryd.func43, Tryd.ntmps43
  go_wp2_with fail
  refine (HC.out _).mono ?_
  rintro e w1 ⟨rfl, rfl⟩
  go_wp2
  go_ret
  exact ⟨rfl, rfl⟩
end Go.Proofs.YthbfodmpoheahaaDoor

/-
  What left of layer 11 does. Conditions: a number from 2 to 2^20 + 1.
-/
namespace Go.Proofs.YthbfodmpoheahaaDoor
open Go.RowKit

theorem pow_le20 {e : Nat} (h : e ≤ 20) : 2 ^ e ≤ 1048576 := Nat.le_trans (Nat.pow_le_pow_right (by decide) h) (by decide)
theorem log_le20 {x : Nat} (h : x ≤ 1048576) (h0 : 0 < x) : Nat.log2 x ≤ 20 := by
  have h1 : x < 2 ^ 21 := Nat.lt_of_le_of_lt h (by decide)
  have h2 := (Nat.log2_lt (n := x) (k := 21) (Nat.ne_of_gt h0)).2 h1
  exact Nat.le_of_lt_succ h2
theorem pow_int (L K : Nat) (h : 2 ^ L = K) : (2 : Int) ^ L = (K : Int) := by rw [← h]; exact (Int.natCast_pow 2 L).symm
theorem wrap_le20 (K : Nat) (h : K ≤ 1048576) : wrap64 (K : Int) = (K : Int) ∧ IntKind.i64.wrap (K : Int) = (K : Int) := ⟨by unfold wrap64; omega, by rw [IntKind.wrap_i64]; omega⟩
set_option maxHeartbeats 400000 in
theorem mk_left (n : Nat) (w : World) (hn : n ≤ 1048577) (h2 : 2 ≤ n) :
    Calls Tryd.prog 26 #[.int .i64 (n : Int)] w (fun e w' => e = .returned (.int .i64 ((spl n : Nat) : Int)) ∧ w = w') := by
  obtain ⟨x, hx⟩ : ∃ x, n - 1 = x := ⟨_, rfl⟩
  have HC := Lib.hid (fun W => mk_len x W (by omega) (by omega))
  have hlg := log_le20 (x := x) (by omega) (by omega)
  have hsp : spl n = 2 ^ Nat.log2 x := by unfold spl; rw [hx]
  have HK := Lib.hid (pow_le20 hlg)
  rw [hsp]
  obtain ⟨L, hL⟩ : ∃ L, Nat.log2 x = L := ⟨_, rfl⟩
  rw [hL] at HC HK hlg ⊢
  have e1 : (n : Int) - 1 = (x : Int) := by omega
  have e2 : wrap64 (x : Int) = (x : Int) := by unfold wrap64; omega
  have e3 : IntKind.u64.wrap (x : Int) = (x : Int) := by rw [IntKind.wrap_u64]; omega
  have e4 : (((L + 1 : Nat) : Int)) - 1 = (L : Int) := by omega
  have e5 : wrap64 (L : Int) = (L : Int) := by unfold wrap64; omega
  have hLb : ¬ L ≥ 64 := by omega
  have hL0 : ¬ (L : Int) < 0 := by omega
  obtain ⟨K, hK⟩ : ∃ K, 2 ^ L = K := ⟨_, rfl⟩
  rw [hK] at HK ⊢
  have e6' := pow_int L K hK
  obtain ⟨e7, e8⟩ := wrap_le20 K HK.out
  clear hx hsp hL hK
  go_enter Tryd.func26, Tryd.ntmps26
  go_wp2_with fail
  refine (HC.out _).mono ?_
  rintro e w1 ⟨rfl, rfl⟩
  go_wp2
  go_ret
  exact ⟨rfl, rfl⟩
end Go.Proofs.YthbfodmpoheahaaDoor

/-
  What Root of layer 11 does. Conditions: no more than 4096 texts of 2^15 bytes; the constants of layer 10 lie where they were laid.
-/
namespace Go.Proofs.YthbfodmpoheahaaDoor
open Go.RowKit
open Pol (co Sm)

theorem mk_leftH (n : Nat) (w : World) (hn : n ≤ 1048577) (h2 : 2 ≤ n) :
    Calls Tryd.prog 26 #[.int .i64 (n : Int)] w (Hands (.int .i64 ((spl n : Nat) : Int)) w) := (mk_left n w hn h2).mono fun _ _ h => ⟨h.1, 0, h.2.symm⟩
set_option maxHeartbeats 1600000 in
set_option maxRecDepth 100000 in
theorem mk_root_small (S : ShaOH) (rows : List (List Nat)) (A : Option Addr) (c : Nat) (w : World) (hgl : GL w) (h2 : rows.length < 2) (hr : RRd w A rows) (hls : ∀ i, i < rows.length → (ro rows i).length ≤ 32768) :
    Calls Tryd.prog 12 #[.slice A rows.length c] w (Tells (dgv (mroot sha rows)) w) := by
  obtain ⟨g0, hg0⟩ : ∃ g, w.heap.size = g := ⟨_, rfl⟩
  have HW0 := Lib.hid hg0
  have HGL := Lib.hid hgl
  have hz := zero_digest.1
  have HZ32 := Lib.hid (fun (_ : Unit) => show (bt 32 fun _ => 0).size = 32 from bt_size _ _)
  obtain ⟨Z, hZ⟩ : ∃ Z, (bt 32 fun _ => 0) = Z := ⟨_, rfl⟩
  rw [hZ] at hz HZ32
  have hx1 := (Ext.refl w).alloc (.cells Z 30)
  have hr0 : (w.alloc (.cells Z 30)).heap[g0]? = some (.cells Z 30 (0, 0)) := by rw [← hg0]; exact heap_alloc_new w _
  have HX1 := Lib.hid hx1
  have HR1 := Lib.hid hr0
  clear hx1 hr0
  match rows, h2, hr, hls with
  | [], _, _, _ =>
    have HC := Lib.hid (fun W (hg : GL W) => (S.of [] none 0 W hg (Rd.nil _ _) (Nat.le_refl _) (by simp)).mono fun _ _ h => h.tells)
    rw [mroot_nil]
    obtain ⟨D, hD⟩ : ∃ D, sha [] = D := ⟨_, rfl⟩
    rw [hD] at HC ⊢
    have HV := Lib.hid (bt_dgc D)
    unfold dgv at HC ⊢
    obtain ⟨V, hV⟩ : ∃ V, bt 32 (co D) = V := ⟨_, rfl⟩
    rw [hV] at HC HV ⊢
    rw [List.length_nil] at HC ⊢
    clear hD hV hZ
    go_enter Tryd.func12, Tryd.ntmps12
    go_wp2_with fail
    refine (HC.out _ (HGL.out.ext HX1.out)).mono ?_
    rintro e w9 ⟨rfl, hx9⟩
    have HX9 := Lib.hid hx9
    clear hx9 hg0
    have HR9 := Lib.hid (WBlk.ext' HR1.out HX9.out)
    have HI9 := Lib.hid HV.out.info
    have HO9 := Lib.hid HV.out.one
    have HZ9 := Lib.hid (show Z.size = V.size from by rw [HV.out.1]; exact HZ32.out ())
    have HG3 := Lib.hid (setRow_heap _ g0 _ V _ _ HR9.out)
    have HX3 := Lib.hid ((HX1.out.trans HX9.out).setRow (g := g0) (by rw [HW0.out]; exact Nat.le_refl _) V)
    go_wp2_with (with_reducible refine wpList_store_all rfl 30 (.tmp 2) (.tmp 8) rfl g0 Z V rfl rfl HR9.out HI9.out HZ9.out HO9.out ?_)
    exact ⟨rfl, .agg V, results_cell_row Tryd.results12 _ _ g0 30 V (0, 0) _ rfl HG3.out Tryd.underlying30 rfl HI9.out, rfl, HX3.out⟩
  | [t], _, hr, hls =>
    have hlt : t.length ≤ 32768 := hls 0 (by simp)
    obtain ⟨b, o, B, ct, rfl, hc0, hl0, hrt⟩ := (hr.ext HX1.out) 0 (by simp)
    have e0 : ro [t] 0 = t := rfl
    rw [e0] at hc0 hl0 hrt
    rw [Nat.add_zero] at hc0
    have HRT := Lib.hid hrt
    have HC := Lib.hid (fun W (hg : GL W) (h : Rd W B t) => mk_leaf S t B ct W hg h hl0 (by omega))
    rw [mroot_one]
    obtain ⟨n, hn⟩ : ∃ n, t.length = n := ⟨_, rfl⟩
    rw [hn] at hc0 HC
    obtain ⟨D, hD⟩ : ∃ D, lf sha t = D := ⟨_, rfl⟩
    rw [hD] at HC ⊢
    have HV := Lib.hid (bt_dgc D)
    unfold dgv at HC ⊢
    obtain ⟨V, hV⟩ : ∃ V, bt 32 (co D) = V := ⟨_, rfl⟩
    rw [hV] at HC HV ⊢
    rw [List.length_singleton]
    clear hD hV hZ hr hls hrt hl0 hlt hn e0
    go_enter Tryd.func12, Tryd.ntmps12
    go_wp2_with fail
    refine (HC.out _ (HGL.out.ext HX1.out) HRT.out).mono ?_
    rintro e w9 ⟨rfl, hx9⟩
    have HX9 := Lib.hid hx9
    clear hx9 hg0
    have HR9 := Lib.hid (WBlk.ext' HR1.out HX9.out)
    have HI9 := Lib.hid HV.out.info
    have HO9 := Lib.hid HV.out.one
    have HZ9 := Lib.hid (show Z.size = V.size from by rw [HV.out.1]; exact HZ32.out ())
    have HG3 := Lib.hid (setRow_heap _ g0 _ V _ _ HR9.out)
    have HX3 := Lib.hid ((HX1.out.trans HX9.out).setRow (g := g0) (by rw [HW0.out]; exact Nat.le_refl _) V)
    go_wp2_with (with_reducible refine wpList_store_all rfl 30 (.tmp 2) (.tmp 14) rfl g0 Z V rfl rfl HR9.out HI9.out HZ9.out HO9.out ?_)
    exact ⟨rfl, .agg V, results_cell_row Tryd.results12 _ _ g0 30 V (0, 0) _ rfl HG3.out Tryd.underlying30 rfl HI9.out, rfl, HX3.out⟩
set_option maxHeartbeats 1600000 in
set_option maxRecDepth 100000 in
theorem mk_root (S : ShaOH) (m : Nat) : ∀ (rows : List (List Nat)) (A : Option Addr) (c : Nat) (w : World), rows.length ≤ m → GL w → RRd w A rows → rows.length ≤ c → rows.length ≤ 4096 → (∀ i, i < rows.length → (ro rows i).length ≤ 32768) →
    Calls Tryd.prog 12 #[.slice A rows.length c] w (Tells (dgv (mroot sha rows)) w) := by
  induction m with
  | zero => intro rows A c w hm hgl hr hc hl hls; exact mk_root_small S rows A c w hgl (by omega) hr hls
  | succ m ih => 
    intro rows A c w hm hgl hr hc hl hls
    have HGL := Lib.hid hgl
    obtain ⟨g0, hg0⟩ : ∃ g, w.heap.size = g := ⟨_, rfl⟩
    have HW0 := Lib.hid hg0
    have HR := Lib.hid hr
    have hz := zero_digest.1
    have HZ32 := Lib.hid (fun (_ : Unit) => show (bt 32 fun _ => 0).size = 32 from bt_size _ _)
    obtain ⟨Z, hZ⟩ : ∃ Z, (bt 32 fun _ => 0) = Z := ⟨_, rfl⟩
    rw [hZ] at hz HZ32
    by_cases h2 : 2 ≤ rows.length
    · have hk1 := spl_lt h2
      have hk0 := spl_pos rows.length
      have HSP := Lib.hid (fun W => mk_leftH rows.length W (by omega) h2)
      obtain ⟨n, hn⟩ : ∃ n, rows.length = n := ⟨_, rfl⟩
      have HMR := Lib.hid (mroot_more sha h2)
      rw [hn] at hm hc hl h2 hk1 hk0 HSP HMR ⊢
      obtain ⟨k, hk⟩ : ∃ k, spl n = k := ⟨_, rfl⟩
      rw [hk] at hk1 hk0 HSP HMR
      have ht := run_to_rows A n c k (by omega)
      obtain ⟨X, hx, hxr⟩ := run_rest_rows A n c k (by omega) hc
      have HC1 := Lib.hid (fun W (h : Ext w W) => show Calls Tryd.prog 12 #[.slice A k c] W (Tells (dgv (mroot sha (rows.take k))) W) from by
        have hlt : (rows.take k).length = k := by rw [List.length_take]; omega
        have h1 := ih (rows.take k) A c W (by omega) (HGL.out.ext h) ((HR.out.ext h).take k) (by omega) (by omega) (fun i hi => by rw [ro_take rows k i (by omega)]; exact hls i (by omega))
        rw [hlt] at h1
        exact h1)
      have HC2 := Lib.hid (fun W (h : Ext w W) => show Calls Tryd.prog 12 #[.slice X (n - k) (c - k)] W (Tells (dgv (mroot sha (rows.drop k))) W) from by
        have hlt : (rows.drop k).length = n - k := by rw [List.length_drop]; omega
        have h1 := ih (rows.drop k) X (c - k) W (by omega) (HGL.out.ext h) (hxr W rows (HR.out.ext h) hn) (by omega) (by omega) (fun i hi => by rw [ro_drop]; exact hls (k + i) (by omega))
        rw [hlt] at h1
        exact h1)
      have HC3 := Lib.hid (fun W (h : Ext w W) => mk_join S (mroot sha (rows.take k)) (mroot sha (rows.drop k)) W (HGL.out.ext h) (mroot_32 _) (mroot_32 _) (mroot_sm _) (mroot_sm _))
      rw [HMR.out]
      obtain ⟨D1, hD1⟩ : ∃ D, mroot sha (rows.take k) = D := ⟨_, rfl⟩
      obtain ⟨D2, hD2⟩ : ∃ D, mroot sha (rows.drop k) = D := ⟨_, rfl⟩
      rw [hD1] at HC1 HC3 ⊢
      rw [hD2] at HC2 HC3 ⊢
      obtain ⟨D, hD⟩ : ∃ D, nd sha D1 D2 = D := ⟨_, rfl⟩
      rw [hD] at HC3 ⊢
      have HV := Lib.hid (bt_dgc D)
      unfold dgv at HC1 HC2 HC3 ⊢
      obtain ⟨V1, hV1⟩ : ∃ V, bt 32 (co D1) = V := ⟨_, rfl⟩
      obtain ⟨V2, hV2⟩ : ∃ V, bt 32 (co D2) = V := ⟨_, rfl⟩
      obtain ⟨V, hV⟩ : ∃ V, bt 32 (co D) = V := ⟨_, rfl⟩
      rw [hV1] at HC1 HC3
      rw [hV2] at HC2 HC3
      rw [hV] at HC3 HV ⊢
      have d1 : decide ((n : Int) = 0) = false := decide_eq_false (by omega)
      have d2 : decide ((n : Int) = 1) = false := decide_eq_false (by omega)
      have n1 : ¬ (n : Int) = 0 := by omega
      have n2 : ¬ (n : Int) = 1 := by omega
      have n3 : ¬ n = 0 := by omega
      have n4 : ¬ n = 1 := by omega
      clear hZ hn hgl hr hm hc hl h2 hls HMR hk hxr hD1 hD2 hD hV1 hV2 hV hk0
      have hx1 := (Ext.refl w).alloc (.cells Z 30)
      have hr0 : (w.alloc (.cells Z 30)).heap[g0]? = some (.cells Z 30 (0, 0)) := by rw [← hg0]; exact heap_alloc_new w _
      have HX0 := Lib.hid hx1
      have HR0 := Lib.hid hr0
      clear hx1 hr0
      go_enter Tryd.func12, Tryd.ntmps12
      go_wp2_with fail
      refine (HSP.out _).mono ?_
      rintro e w2 ⟨rfl, q, rfl⟩
      have HX1 := Lib.hid (HX0.out.drewN q)
      have HR1 := Lib.hid (show ((w.alloc (.cells Z 30)).drewN q).heap[g0]? = some (.cells Z 30 (0, 0)) from HR0.out)
      generalize (w.alloc (.cells Z 30)).drewN q = w1 at HX1 HR1 ⊢
      clear hz hg0
      have C1 := Lib.hid (fun W (h : AfterH w1 W) => (HC1.out W (HX1.out.trans h)).mono (fun _ _ (x : _ ∧ _) => (⟨x.1, Ext.trans h x.2⟩ : _ ∧ AfterH w1 _)))
      have C2 := Lib.hid (fun W (h : AfterH w1 W) => (HC2.out W (HX1.out.trans h)).mono (fun _ _ (x : _ ∧ _) => (⟨x.1, Ext.trans h x.2⟩ : _ ∧ AfterH w1 _)))
      have C3 := Lib.hid (fun W (h : AfterH w1 W) => (HC3.out W (HX1.out.trans h)).mono (fun _ _ (x : _ ∧ _) => (⟨x.1, Ext.trans h x.2⟩ : _ ∧ AfterH w1 _)))
      go_wp2
      refine wp_region_quiet_tail 9 (AfterH w1) (by kernel_rfl) (by kernel_rfl) ((Ext.refl w1).drew) ?_
      simp only [List.take_succ_cons, List.take_zero, List.drop_succ_cons, List.drop_zero]
      refine wpQuiet_step (fun K hK => ?_); go_simp; refine ⟨_, fun _ _ => rfl, hK _ ?_⟩; clear hK K
      refine wpQuiet_step (fun K hK => ?_); go_simp; refine ⟨_, fun _ _ => rfl, hK _ ?_⟩; clear hK K
      refine wpQuiet_step (fun K hK => ?_); go_simp; refine ⟨_, fun _ _ => rfl, hK _ ?_⟩; clear hK K
      refine wpQuiet_step (fun K hK => ?_); go_simp; refine ⟨_, fun W hW => C1.out W hW, hK _ ?_⟩; clear hK K
      refine wpQuiet_step (fun K hK => ?_); go_simp; refine ⟨_, fun _ _ => rfl, hK _ ?_⟩; clear hK K
      refine wpQuiet_step (fun K hK => ?_); go_simp; refine ⟨_, fun _ _ => rfl, hK _ ?_⟩; clear hK K
      refine wpQuiet_step (fun K hK => ?_); go_simp; refine ⟨_, fun _ _ => rfl, hK _ ?_⟩; clear hK K
      refine wpQuiet_step (fun K hK => ?_); go_simp; refine ⟨_, fun W hW => C2.out W hW, hK _ ?_⟩; clear hK K
      refine wpQuiet_step (fun K hK => ?_); go_simp; refine ⟨_, fun W hW => C3.out W hW, hK _ ?_⟩; clear hK K
      refine wpQuiet_nil ?_
      intro w9 hw9
      have HX9 := Lib.hid hw9
      clear hw9
      have HR9 := Lib.hid (WBlk.ext' HR1.out HX9.out)
      have HI9 := Lib.hid HV.out.info
      have HO9 := Lib.hid HV.out.one
      have HZ9 := Lib.hid (show Z.size = V.size from by rw [HV.out.1]; exact HZ32.out ())
      have HG3 := Lib.hid (setRow_heap _ g0 _ V _ _ HR9.out)
      have HX3 := Lib.hid ((HX1.out.trans HX9.out).setRow (g := g0) (by rw [HW0.out]; exact Nat.le_refl _) V)
      go_wp2_with (with_reducible refine wpList_store_all rfl 30 (.tmp 2) (.tmp 26) rfl g0 Z V rfl rfl HR9.out HI9.out HZ9.out HO9.out ?_)
      exact ⟨rfl, .agg V, results_cell_row Tryd.results12 _ _ g0 30 V (0, 0) _ rfl HG3.out Tryd.underlying30 rfl HI9.out, rfl, HX3.out⟩
    · exact mk_root_small S rows A c w hgl (by omega) hr hls
end Go.Proofs.YthbfodmpoheahaaDoor

/-
  What climb of layer 11 does, of one text, and where the proof is empty. Conditions: the constants of layer 10 lie where they were laid; at most 2^20 texts, a place below them.
-/
namespace Go.Proofs.YthbfodmpoheahaaDoor
open Go.RowKit
open Pol (co Sm)

set_option maxHeartbeats 1600000 in
set_option maxRecDepth 100000 in
theorem mk_climb_one (i : Nat) (d : List Nat) (ps : List (List Nat)) (A : Option Addr) (c : Nat) (w : World) (hd : d.length = 32) (hsm : Sm d) :
    Calls Tryd.prog 32 #[dgv d, .int .i64 (i : Int), .int .i64 1, .slice A ps.length c] w (LiftS d 1 i ps w) := by
  obtain ⟨g0, hg0⟩ : ∃ g, w.heap.size = g := ⟨_, rfl⟩
  have HW0 := Lib.hid hg0
  have hz := zero_digest.1
  have HZ32 := Lib.hid (fun (_ : Unit) => show (bt 32 fun _ => 0).size = 32 from bt_size _ _)
  have HZV := Lib.hid (fun (_ : Unit) => show (bt 32 fun _ => 0) = bt 32 (co (List.replicate 32 0)) from bt_zero)
  obtain ⟨Z, hZ⟩ : ∃ Z, (bt 32 fun _ => 0) = Z := ⟨_, rfl⟩
  rw [hZ] at hz HZ32 HZV
  have HZZ := Lib.hid hZ
  have HD := Lib.hid (And.intro hd hsm)
  have HVD := Lib.hid (bt_dgc d)
  obtain ⟨VD, hVD⟩ : ∃ V, bt 32 (co d) = V := ⟨_, rfl⟩
  have HVE := Lib.hid hVD
  rw [hVD] at HVD
  have hx1 := ((Ext.refl w).alloc (.cells VD 30)).alloc (.cells Z 30)
  have hs1 : ((w.alloc (.cells VD 30)).alloc (.cells Z 30)).heap.size = g0 + 2 := by rw [← hg0]; simp
  have hr0 : ((w.alloc (.cells VD 30)).alloc (.cells Z 30)).heap[g0]? = some (.cells VD 30 (0, 0)) := by
    rw [heap_alloc_old _ _ (by simp; omega), ← hg0]; exact heap_alloc_new w _
  have hr1 : ((w.alloc (.cells VD 30)).alloc (.cells Z 30)).heap[g0 + 1]? = some (.cells Z 30 (0, 0)) := by
    have h := heap_alloc_new (w.alloc (.cells VD 30)) (.cells Z 30)
    rw [show (w.alloc (.cells VD 30)).heap.size = g0 + 1 from by rw [← hg0]; simp] at h
    exact h
  obtain ⟨w1, hw1⟩ : ∃ q, (w.alloc (.cells VD 30)).alloc (.cells Z 30) = q := ⟨_, rfl⟩
  rw [hw1] at hx1 hs1 hr0 hr1
  have HW1 := Lib.hid hw1
  have HX1 := Lib.hid hx1
  have HZ1 := Lib.hid hs1
  have HR0 := Lib.hid hr0
  have HR1 := Lib.hid hr1
  have HIV := Lib.hid HVD.out.info
  have HOV := Lib.hid HVD.out.one
  have HZV9 := Lib.hid (show Z.size = VD.size from by rw [HVD.out.1]; exact HZ32.out ())
  have HLV := Lib.hid (fun (W : World) (h : AfterH w1 W) => show (Instr.loadAt 30 (.pointer (some ⟨g0, 0, none⟩))).run Tryd.prog W = .ok (.agg VD) W from by
    have h2 := load_blk W g0 d 30 (0, 0) (by rw [HVE.out]; exact WBlk.ext' HR0.out h)
    unfold dgv at h2
    rw [HVE.out] at h2
    exact h2)
  unfold dgv
  rw [hVD]
  clear hx1 hs1 hr0 hr1 hw1 hVD
  obtain ⟨p, hp⟩ : ∃ p, ps.length = p := ⟨_, rfl⟩
  obtain ⟨z, e0⟩ : ∃ z, ((p : Int) == 0) = z := ⟨_, rfl⟩
  have HML := Lib.hid (show mlift sha d 1 i ps = if z then some d else none from by
    rw [mlift_one sha d i ps (by omega), ← e0]
    by_cases e : ps = []
    · have h0 : p = 0 := by rw [← hp, e]; rfl
      rw [if_pos e, h0]
      rfl
    · have h0 : p ≠ 0 := fun h => e (List.eq_nil_of_length_eq_zero (by omega))
      have h1 : ((p : Int) == 0) = false := by
        have : (p : Int) ≠ 0 := by omega
        simpa using this
      rw [if_neg e, h1]
      rfl)
  rw [hp]
  have HG3 := Lib.hid (setRow_heap _ (g0 + 1) _ VD _ _ HR1.out)
  have HX3 := Lib.hid (HX1.out.setRow (g := g0 + 1) (by rw [HW0.out]; omega) VD)
  clear hd hsm hZ hp
  go_enter Tryd.func32, Tryd.ntmps32
  go_wp2_with (first | (rw [HW1.out]; with_reducible refine wpList_load_row rfl 30 (.tmp 4) rfl g0 rfl 30 VD (0, 0) _ HR0.out Tryd.underlying30 rfl HIV.out ?_) | with_reducible refine wpList_store_all rfl 30 (.tmp 8) (.tmp 18) rfl (g0 + 1) Z VD rfl rfl HR1.out HIV.out HZV9.out HOV.out ?_)
  exact ⟨rfl, .tuple #[.agg VD, .bool z], results_rt Tryd.results32 _ _ (g0 + 1) 30 VD (0, 0) rfl HG3.out HIV.out, d, z, by rw [← HVE.out]; rfl, HD.out.1, HD.out.2, HX3.out, HML.out⟩
set_option maxHeartbeats 1600000 in
set_option maxRecDepth 100000 in
theorem mk_climb_nil (n i : Nat) (d : List Nat) (A : Option Addr) (c : Nat) (w : World) (h2 : 2 ≤ n) (hd : d.length = 32) (hsm : Sm d) :
    Calls Tryd.prog 32 #[dgv d, .int .i64 (i : Int), .int .i64 (n : Int), .slice A 0 c] w (LiftS d n i [] w) := by
  obtain ⟨g0, hg0⟩ : ∃ g, w.heap.size = g := ⟨_, rfl⟩
  have HW0 := Lib.hid hg0
  have hz := zero_digest.1
  have HZ32 := Lib.hid (fun (_ : Unit) => show (bt 32 fun _ => 0).size = 32 from bt_size _ _)
  have HZV := Lib.hid (fun (_ : Unit) => show (bt 32 fun _ => 0) = bt 32 (co (List.replicate 32 0)) from bt_zero)
  obtain ⟨Z, hZ⟩ : ∃ Z, (bt 32 fun _ => 0) = Z := ⟨_, rfl⟩
  rw [hZ] at hz HZ32 HZV
  have HZZ := Lib.hid hZ
  have HD := Lib.hid (And.intro hd hsm)
  have HVD := Lib.hid (bt_dgc d)
  obtain ⟨VD, hVD⟩ : ∃ V, bt 32 (co d) = V := ⟨_, rfl⟩
  have HVE := Lib.hid hVD
  rw [hVD] at HVD
  have hx1 := ((Ext.refl w).alloc (.cells VD 30)).alloc (.cells Z 30)
  have hs1 : ((w.alloc (.cells VD 30)).alloc (.cells Z 30)).heap.size = g0 + 2 := by rw [← hg0]; simp
  have hr0 : ((w.alloc (.cells VD 30)).alloc (.cells Z 30)).heap[g0]? = some (.cells VD 30 (0, 0)) := by
    rw [heap_alloc_old _ _ (by simp; omega), ← hg0]; exact heap_alloc_new w _
  have hr1 : ((w.alloc (.cells VD 30)).alloc (.cells Z 30)).heap[g0 + 1]? = some (.cells Z 30 (0, 0)) := by
    have h := heap_alloc_new (w.alloc (.cells VD 30)) (.cells Z 30)
    rw [show (w.alloc (.cells VD 30)).heap.size = g0 + 1 from by rw [← hg0]; simp] at h
    exact h
  obtain ⟨w1, hw1⟩ : ∃ q, (w.alloc (.cells VD 30)).alloc (.cells Z 30) = q := ⟨_, rfl⟩
  rw [hw1] at hx1 hs1 hr0 hr1
  have HW1 := Lib.hid hw1
  have HX1 := Lib.hid hx1
  have HZ1 := Lib.hid hs1
  have HR0 := Lib.hid hr0
  have HR1 := Lib.hid hr1
  have HIV := Lib.hid HVD.out.info
  have HOV := Lib.hid HVD.out.one
  have HZV9 := Lib.hid (show Z.size = VD.size from by rw [HVD.out.1]; exact HZ32.out ())
  have HLV := Lib.hid (fun (W : World) (h : AfterH w1 W) => show (Instr.loadAt 30 (.pointer (some ⟨g0, 0, none⟩))).run Tryd.prog W = .ok (.agg VD) W from by
    have h2 := load_blk W g0 d 30 (0, 0) (by rw [HVE.out]; exact WBlk.ext' HR0.out h)
    unfold dgv at h2
    rw [HVE.out] at h2
    exact h2)
  unfold dgv
  rw [hVD]
  clear hx1 hs1 hr0 hr1 hw1 hVD
  have HML := Lib.hid (mlift_nil sha d i h2)
  have d1 : decide ((n : Int) = 1) = false := decide_eq_false (by omega)
  have n1 : ¬ (n : Int) = 1 := by omega
  have n2 : ¬ n = 1 := by omega
  have HIZ := Lib.hid (show (Tryd.prog.info? 30).map (·.size) = some Z.size from by rw [HZ32.out ()]; exact zero_digest.2)
  have HOZ := Lib.hid (show Z.all (·.oneCell') = true from by rw [HZV.out ()]; exact (bt_dgc _).one)
  have HG3 := Lib.hid (setRow_heap _ (g0 + 1) _ Z _ _ HR1.out)
  have HX3 := Lib.hid (HX1.out.setRow (g := g0 + 1) (by rw [HW0.out]; omega) Z)
  have HZS := Lib.hid (show Z.size = Z.size from rfl)
  clear hd hsm hZ h2
  go_enter Tryd.func32, Tryd.ntmps32
  go_wp2_with (rw [HW1.out]; (with_reducible refine wpList_store_all rfl 30 (.tmp 8) (.tmp 25) rfl (g0 + 1) Z Z rfl rfl HR1.out HIZ.out HZS.out HOZ.out ?_))
  exact ⟨rfl, .tuple #[.agg Z, .bool false], results_rt Tryd.results32 _ _ (g0 + 1) 30 Z (0, 0) rfl HG3.out HIZ.out, List.replicate 32 0, false, by unfold dgv; rw [← HZV.out ()], by simp, sm_zeros 32, HX3.out, HML.out⟩
end Go.Proofs.YthbfodmpoheahaaDoor

/-
  What climb of layer 11 does, to the left. Conditions: the constants of layer 10 lie where they were laid; at most 2^20 texts, a place below them.
-/
namespace Go.Proofs.YthbfodmpoheahaaDoor
open Go.RowKit
open Pol (co Sm)

set_option maxHeartbeats 1600000 in
set_option maxRecDepth 100000 in
theorem mk_climb_lo (S : ShaOH) (n i k : Nat) (d : List Nat) (ps : List (List Nat)) (x : List Nat) (A : Option Addr) (c : Nat) (w : World) (hgl : GL w) (h2 : 2 ≤ n) (hnb : n ≤ 1048576) (hd : d.length = 32) (hsm : Sm d) (hr : DRd w A (ps ++ [x])) (hc : ps.length + 1 ≤ c) (hpl : ps.length + 1 ≤ 1048576)
    (hk : spl n = k) (hik : i < k)
    (ih : ∀ W, Ext w W → DRd W A ps → Calls Tryd.prog 32 #[dgv d, .int .i64 (i : Int), .int .i64 (k : Int), .slice A ps.length c] W (LiftS d k i ps W)) :
    Calls Tryd.prog 32 #[dgv d, .int .i64 (i : Int), .int .i64 (n : Int), .slice A (ps.length + 1) c] w (LiftS d n i (ps ++ [x]) w) := by
  have HGL := Lib.hid hgl
  obtain ⟨g0, hg0⟩ : ∃ g, w.heap.size = g := ⟨_, rfl⟩
  have HW0 := Lib.hid hg0
  have hz := zero_digest.1
  have HZ32 := Lib.hid (fun (_ : Unit) => show (bt 32 fun _ => 0).size = 32 from bt_size _ _)
  have HZV := Lib.hid (fun (_ : Unit) => show (bt 32 fun _ => 0) = bt 32 (co (List.replicate 32 0)) from bt_zero)
  obtain ⟨Z, hZ⟩ : ∃ Z, (bt 32 fun _ => 0) = Z := ⟨_, rfl⟩
  rw [hZ] at hz HZ32 HZV
  have HZZ := Lib.hid hZ
  have HD := Lib.hid (And.intro hd hsm)
  have HVD := Lib.hid (bt_dgc d)
  obtain ⟨VD, hVD⟩ : ∃ V, bt 32 (co d) = V := ⟨_, rfl⟩
  have HVE := Lib.hid hVD
  rw [hVD] at HVD
  have hx1 := ((Ext.refl w).alloc (.cells VD 30)).alloc (.cells Z 30)
  have hs1 : ((w.alloc (.cells VD 30)).alloc (.cells Z 30)).heap.size = g0 + 2 := by rw [← hg0]; simp
  have hr0 : ((w.alloc (.cells VD 30)).alloc (.cells Z 30)).heap[g0]? = some (.cells VD 30 (0, 0)) := by
    rw [heap_alloc_old _ _ (by simp; omega), ← hg0]; exact heap_alloc_new w _
  have hr1 : ((w.alloc (.cells VD 30)).alloc (.cells Z 30)).heap[g0 + 1]? = some (.cells Z 30 (0, 0)) := by
    have h := heap_alloc_new (w.alloc (.cells VD 30)) (.cells Z 30)
    rw [show (w.alloc (.cells VD 30)).heap.size = g0 + 1 from by rw [← hg0]; simp] at h
    exact h
  obtain ⟨w1, hw1⟩ : ∃ q, (w.alloc (.cells VD 30)).alloc (.cells Z 30) = q := ⟨_, rfl⟩
  rw [hw1] at hx1 hs1 hr0 hr1
  have HW1 := Lib.hid hw1
  have HX1 := Lib.hid hx1
  have HZ1 := Lib.hid hs1
  have HR0 := Lib.hid hr0
  have HR1 := Lib.hid hr1
  have HIV := Lib.hid HVD.out.info
  have HOV := Lib.hid HVD.out.one
  have HZV9 := Lib.hid (show Z.size = VD.size from by rw [HVD.out.1]; exact HZ32.out ())
  have HLV := Lib.hid (fun (W : World) (h : AfterH w1 W) => show (Instr.loadAt 30 (.pointer (some ⟨g0, 0, none⟩))).run Tryd.prog W = .ok (.agg VD) W from by
    have h2 := load_blk W g0 d 30 (0, 0) (by rw [HVE.out]; exact WBlk.ext' HR0.out h)
    unfold dgv at h2
    rw [HVE.out] at h2
    exact h2)
  unfold dgv
  rw [hVD]
  clear hx1 hs1 hr0 hr1 hw1 hVD
  have HR := Lib.hid hr
  have HPL := Lib.hid (show (ps ++ [x]).length = ps.length + 1 from by simp)
  have hk1 := spl_lt h2
  have hk0 := spl_pos n
  have HSP := Lib.hid (fun W => mk_leftH n W (by omega) h2)
  have HXX := Lib.hid (show x.length = 32 ∧ Sm x from by
    have h := HR.out.one ps.length (by rw [HPL.out]; omega)
    rw [show ro (ps ++ [x]) ps.length = x from by unfold ro; simp] at h
    exact h)
  have HRQ := Lib.hid (show DRd w A ps from by
    have h := HR.out.take ps.length
    rwa [List.take_left] at h)
  obtain ⟨b, o, rfl, hcell⟩ := HR.out.addr (by rw [HPL.out]; omega)
  have HCL := Lib.hid (show ∀ j, j < 32 → w.cell? ⟨b, o + ps.length * 32 + j, none⟩ = some (.int .u8 ((co x j : Nat) : Int)) from fun j hj => by
    have h := hcell ps.length (by rw [HPL.out]; omega) j hj
    rw [show ro (ps ++ [x]) ps.length = x from by unfold ro; simp] at h
    exact h)
  have HMX := Lib.hid (mlift_lo sha d i ps x h2 (by rw [hk]; exact hik))
  rw [hk] at hk1 hk0 HSP HMX
  have HIH := Lib.hid (fun W (h : Ext w W) => ih W h (HRQ.out.ext h))
  obtain ⟨p, hp⟩ : ∃ p, ps.length = p := ⟨_, rfl⟩
  rw [hp] at HCL hc hpl HIH ⊢
  have ht := fun W => run_to_dig (some ⟨b, o, none⟩) (p + 1) c p (by omega) W
  have HLX := Lib.hid (fun (W : World) (h : Ext w W) => show (Instr.loadAt 30 (.pointer (some ⟨b, o + p * 32, none⟩))).run Tryd.prog W = .ok (dgv x) W from run_load_dig W b (o + p * 32) x (fun j hj => by rw [(h.below.cell (p := ⟨b, o + p * 32 + j, none⟩) (block_lt_of_cell (HCL.out j hj)))]; exact HCL.out j hj))
  have d1 : decide ((n : Int) = 1) = false := decide_eq_false (by omega)
  have n1 : ¬ (n : Int) = 1 := by omega
  have n2 : ¬ n = 1 := by omega
  have d2 : decide (((p + 1 : Nat) : Int) = 0) = false := decide_eq_false (by omega)
  have n3 : ¬ ((p + 1 : Nat) : Int) = 0 := by omega
  have n4 : ¬ (p : Int) + 1 = 0 := by omega
  have hp0 : (0 : Int) ≤ (p : Int) := by omega
  have hp1 : (p : Int) < ((p + 1 : Nat) : Int) := by omega
  have hp2 : (p : Int) < (p : Int) + 1 := by omega
  have hp3 : p < p + 1 := by omega
  have d3 : decide ((i : Int) < (k : Int)) = true := decide_eq_true (by omega)
  have n5 : (i : Int) < (k : Int) := by omega
  have HC3 := Lib.hid (fun W (h : Ext w W) y (hy : y.length = 32) (hsy : Sm y) => mk_join S y x W (HGL.out.ext h) hy HXX.out.1 hsy HXX.out.2)
  have hpb : p ≤ 1048577 := Nat.le_trans (Nat.le_of_succ_le hpl) (by decide)
  have e3 := w64_nat p hpb
  have e1 := w64_pred p hpb
  have e2 := w64_prd p hpb
  unfold LiftS at HIH
  unfold dgv at HIH HLX HC3
  rw [HVE.out] at HIH
  obtain ⟨VX, hVX⟩ : ∃ V, bt 32 (co x) = V := ⟨_, rfl⟩
  have HVX := Lib.hid hVX
  rw [hVX] at HLX HC3
  clear hpb hcell hk hp hnb hd hsm hZ hpl hc h2 ih hk0 hk1 hik hVX hr hgl
  go_enter Tryd.func32, Tryd.ntmps32
  go_wp2_with fail
  rw [HW1.out]
  refine (HSP.out _).mono ?_
  rintro e w2 ⟨rfl, q, rfl⟩
  have HX2 := Lib.hid (show AfterH w1 (w1.drewN q) from (Ext.refl w1).drewN q)
  generalize w1.drewN q = w2 at HX2 ⊢
  obtain ⟨u, hu⟩ : ∃ u, w2.drew = u := ⟨_, rfl⟩
  have HXU := Lib.hid (show AfterH w1 u from by rw [← hu]; exact Ext.drew HX2.out)
  go_wp2_with (refine wp_region_plan (AfterH w1) [0, 1, 2, 3, 4, 5, 6, 7, 8, 9, 10, 11] (.yes 0 (.yes 1 (.yes 2 (.yes 3 (.yes 4 (.yes 5 (.two 6 (.yes 7 (.yes 8 (.yes 9 (.one 10 (.one 11 (.one 12 .done)))))) 10 (.one 6 (.yes 7 (.yes 8 (.yes 9 (.one 11 (.one 12 .done))))))))))))) (by kernel_rfl) (fun c a a' w e h => ⟨e ▸ h.1, h.2⟩) (by kernel_rfl) (by rw [hu]; exact HXU.out) ?_)
  rw [hu]
  clear hu
  refine plan_load rfl 30 (.tmp 4) rfl (.agg VD) (by rfl) (fun W hW => HLV.out W hW) ?_
  refine plan_yes rfl (fun K hK => ?_); go_simp; refine ⟨_, fun _ _ => rfl, hK _ ?_⟩; clear hK K
  refine plan_yes rfl (fun K hK => ?_); go_simp; refine ⟨_, fun _ _ => rfl, hK _ ?_⟩; clear hK K
  refine plan_yes rfl (fun K hK => ?_); go_simp; refine ⟨_, fun _ _ => rfl, hK _ ?_⟩; clear hK K
  refine plan_yes rfl (fun K hK => ?_); go_simp; refine ⟨_, fun _ _ => rfl, hK _ ?_⟩; clear hK K
  refine plan_yes rfl (fun K hK => ?_); go_simp; refine ⟨_, fun _ _ => rfl, hK _ ?_⟩; clear hK K
  refine plan_two rfl rfl (fun K hK => ?_) (fun K hK => ?_)
  · skip
    go_wp2_with fail
    refine (HIH.out _ (HX1.out.trans HXU.out)).mono ?_
    rintro e v4 ⟨y, ok, rfl, hy, hsy, hx4, hml⟩
    have HX4 := Lib.hid (show AfterH w1 v4 from Ext.trans HXU.out hx4)
    have HY := Lib.hid (And.intro hy hsy)
    have HMY := Lib.hid hml
    clear hy hsy hx4 hml
    obtain ⟨VY, hVY⟩ : ∃ V, bt 32 (co y) = V := ⟨_, rfl⟩
    have HVY := Lib.hid (show Dgc VY y from by rw [← hVY]; exact bt_dgc y)
    have HVYE := Lib.hid hVY
    rw [hVY]
    clear hVY
    go_wp2
    refine ⟨fun _ => HX4.out, ?_⟩
    refine plan_yes rfl (fun K hK => ?_); go_simp; refine ⟨_, fun _ _ => rfl, hK _ ?_⟩; clear hK K
    refine plan_yes rfl (fun K hK => ?_); go_simp; refine ⟨_, fun _ _ => rfl, hK _ ?_⟩; clear hK K
    refine plan_yes rfl (fun K hK => ?_); go_simp; refine ⟨_, fun _ _ => rfl, hK _ ?_⟩; clear hK K
    refine plan_one rfl (fun K hK => ?_)
    obtain ⟨gx, hgx⟩ : ∃ g, (v4).heap.size = g := ⟨_, rfl⟩
    have HGX := Lib.hid (show ((v4).alloc (.cells Z 30)).heap[gx]? = some (.cells Z 30 (0, 0)) from by rw [← hgx]; exact heap_alloc_new _ _)
    have HX5 := Lib.hid (show AfterH w1 ((v4).alloc (.cells Z 30)) from Ext.alloc HX4.out _)
    have HGB := Lib.hid (show w1.heap.size ≤ gx from by rw [← hgx]; exact Ext.size HX4.out)
    go_wp2
    refine ⟨fun _ => HX5.out, ?_⟩
    generalize (v4).alloc (.cells Z 30) = v5 at HX5 HGX ⊢
    clear hgx
    have HIY := Lib.hid HVY.out.info
    have HOY := Lib.hid HVY.out.one
    have HZY := Lib.hid (show Z.size = VY.size from by rw [HVY.out.1]; exact HZ32.out ())
    have HX6 := Lib.hid (show Ext w1 (v5.setRow gx VY) from Ext.setRow HX5.out HGB.out VY)
    have HG6 := Lib.hid (setRow_heap _ gx _ VY _ _ HGX.out)
    refine plan_one rfl (fun K hK => ?_)
    go_wp2_with (with_reducible refine wpList_store_all rfl 30 (.tmp 12) (.tmp 42) rfl gx Z VY rfl rfl HGX.out HIY.out HZY.out HOY.out ?_)
    refine ⟨fun _ => HX6.out, ?_⟩
    refine plan_one rfl (fun K hK => ?_)
    go_wp2
    refine ⟨fun h => absurd h (by decide), ?_⟩
    unfold wpPlan
    generalize v5.setRow gx VY = v6 at HX6 HG6 ⊢
    go_wp2
    obtain ⟨u6, hu6⟩ : ∃ u, v6.drew = u := ⟨_, rfl⟩
    have HXU6 := Lib.hid (show AfterH v6 u6 from by rw [← hu6]; exact (Ext.refl v6).drew)
    have LY := Lib.hid (fun (W : World) (h : AftG w gx VY W) => show (Instr.loadAt 30 (.pointer (some ⟨gx, 0, none⟩))).run Tryd.prog W = .ok (.agg VY) W from by
      have h2 := load_blk W gx y 30 (0, 0) (by rw [HVYE.out]; exact h.2)
      unfold dgv at h2
      rw [HVYE.out] at h2
      exact h2)
    have HB := Lib.hid (fun (W : World) (h : AfterH v6 W) => HC3.out W (HX1.out.trans (HX6.out.trans h)) y HY.out.1 HY.out.2)
    rw [HVYE.out] at HB
    refine wp_region_plan (AftG w gx VY) [0, 1, 2, 3, 4, 5, 6, 7] (.yes 0 (.yes 1 (.yes 2 (.yes 3 (.yes 4 (.yes 6 (.one 5 (.one 7 (.one 8 .done))))))))) (by kernel_rfl) (fun c a a' w e h => ⟨e ▸ h.1, h.2⟩) (by kernel_rfl) (by rw [hu6]; exact ⟨HX1.out.trans (HX6.out.trans HXU6.out), WBlk.ext' HG6.out HXU6.out⟩) ?_
    rw [hu6]
    clear hu6
    refine plan_load rfl 30 (.tmp 12) rfl (.agg VY) (by rfl) (fun W hW => LY.out W hW) ?_
    refine plan_yes rfl (fun K hK => ?_); go_simp; refine ⟨_, fun _ _ => rfl, hK _ ?_⟩; clear hK K
    refine plan_yes rfl (fun K hK => ?_); go_simp; refine ⟨_, fun _ _ => rfl, hK _ ?_⟩; clear hK K
    refine plan_yes rfl (fun K hK => ?_); go_simp; refine ⟨_, fun _ _ => rfl, hK _ ?_⟩; clear hK K
    refine plan_load rfl 30 (.tmp 47) rfl (.agg VX) (by rfl) (fun W hW => HLX.out W hW.1) ?_
    refine plan_yes rfl (fun K hK => ?_); go_simp; refine ⟨_, fun _ _ => rfl, hK _ ?_⟩; clear hK K
    refine plan_one rfl (fun K hK => ?_)
    go_wp2_with fail
    refine (HB.out _ HXU6.out).mono ?_
    rintro e w9 ⟨rfl, hx9⟩
    have HX9 := Lib.hid (show AfterH v6 w9 from Ext.trans HXU6.out hx9)
    clear hx9
    obtain ⟨D, hD⟩ : ∃ D, nd sha y x = D := ⟨_, rfl⟩
    have HDL := Lib.hid (show D.length = 32 ∧ Sm D from by rw [← hD]; exact ⟨sha_len _, sha_sm _⟩)
    have HDE := Lib.hid hD
    rw [hD]
    clear hD
    obtain ⟨V, hV⟩ : ∃ V, bt 32 (co D) = V := ⟨_, rfl⟩
    have HVV := Lib.hid hV
    have HV := Lib.hid (show Dgc V D from by rw [← hV]; exact bt_dgc D)
    rw [hV]
    clear hV
    have HC9 := Lib.hid (show AftG w gx VY w9 from ⟨HX1.out.trans (HX6.out.trans HX9.out), WBlk.ext' HG6.out HX9.out⟩)
    go_wp2
    refine ⟨fun _ => HC9.out, ?_⟩
    have HR9 := Lib.hid (WBlk.ext' HR1.out (Ext.trans HX6.out HX9.out))
    have HI9 := Lib.hid HV.out.info
    have HO9 := Lib.hid HV.out.one
    have HZ9 := Lib.hid (show Z.size = V.size from by rw [HV.out.1]; exact HZ32.out ())
    have HG9 := Lib.hid (setRow_heap _ (g0 + 1) _ V _ _ HR9.out)
    have HXF := Lib.hid ((HX1.out.trans (HX6.out.trans HX9.out)).setRow (g := g0 + 1) (by rw [HW0.out]; omega) V)
    refine plan_one rfl (fun K hK => ?_)
    go_wp2_with (with_reducible refine wpList_store_all rfl 30 (.tmp 8) (.tmp 49) rfl (g0 + 1) Z V rfl rfl HR9.out HI9.out HZ9.out HO9.out ?_)
    refine ⟨fun _ => (show AftG w gx VY _ from ⟨HXF.out, setRow_far (by have := HGB.out; have := HZ1.out; omega) HC9.out.2⟩), ?_⟩
    refine plan_one rfl (fun K hK => ?_)
    go_wp2
    refine ⟨fun h => absurd h (by decide), ?_⟩
    unfold wpPlan
    go_wp2
    exact ⟨rfl, .tuple #[.agg V, .bool ok], results_rt Tryd.results32 _ _ (g0 + 1) 30 V (0, 0) rfl HG9.out HI9.out, D, ok, by rw [← HVV.out]; rfl, HDL.out.1, HDL.out.2, HXF.out, by rw [HMX.out, HMY.out, ← HDE.out]; cases ok <;> rfl⟩
  · skip
    obtain ⟨gx, hgx⟩ : ∃ g, (u).heap.size = g := ⟨_, rfl⟩
    have HGX := Lib.hid (show ((u).alloc (.cells Z 30)).heap[gx]? = some (.cells Z 30 (0, 0)) from by rw [← hgx]; exact heap_alloc_new _ _)
    have HX5 := Lib.hid (show AfterH w1 ((u).alloc (.cells Z 30)) from Ext.alloc HXU.out _)
    have HGB := Lib.hid (show w1.heap.size ≤ gx from by rw [← hgx]; exact Ext.size HXU.out)
    go_wp2
    refine ⟨fun _ => HX5.out, ?_⟩
    generalize (u).alloc (.cells Z 30) = v5 at HX5 HGX ⊢
    clear hgx
    refine plan_one rfl (fun K hK => ?_)
    go_wp2_with fail
    refine (HIH.out _ (HX1.out.trans HX5.out)).mono ?_
    rintro e v4 ⟨y, ok, rfl, hy, hsy, hx4, hml⟩
    have HX4 := Lib.hid (show AfterH w1 v4 from Ext.trans HX5.out hx4)
    have HY := Lib.hid (And.intro hy hsy)
    have HMY := Lib.hid hml
    have HGX4 := Lib.hid (WBlk.ext' HGX.out hx4)
    clear hy hsy hx4 hml
    obtain ⟨VY, hVY⟩ : ∃ V, bt 32 (co y) = V := ⟨_, rfl⟩
    have HVY := Lib.hid (show Dgc VY y from by rw [← hVY]; exact bt_dgc y)
    have HVYE := Lib.hid hVY
    rw [hVY]
    clear hVY
    go_wp2
    refine ⟨fun _ => HX4.out, ?_⟩
    refine plan_yes rfl (fun K hK => ?_); go_simp; refine ⟨_, fun _ _ => rfl, hK _ ?_⟩; clear hK K
    refine plan_yes rfl (fun K hK => ?_); go_simp; refine ⟨_, fun _ _ => rfl, hK _ ?_⟩; clear hK K
    refine plan_yes rfl (fun K hK => ?_); go_simp; refine ⟨_, fun _ _ => rfl, hK _ ?_⟩; clear hK K
    have HIY := Lib.hid HVY.out.info
    have HOY := Lib.hid HVY.out.one
    have HZY := Lib.hid (show Z.size = VY.size from by rw [HVY.out.1]; exact HZ32.out ())
    have HX6 := Lib.hid (show Ext w1 (v4.setRow gx VY) from Ext.setRow HX4.out HGB.out VY)
    have HG6 := Lib.hid (setRow_heap _ gx _ VY _ _ HGX4.out)
    refine plan_one rfl (fun K hK => ?_)
    go_wp2_with (with_reducible refine wpList_store_all rfl 30 (.tmp 12) (.tmp 42) rfl gx Z VY rfl rfl HGX4.out HIY.out HZY.out HOY.out ?_)
    refine ⟨fun _ => HX6.out, ?_⟩
    refine plan_one rfl (fun K hK => ?_)
    go_wp2
    refine ⟨fun h => absurd h (by decide), ?_⟩
    unfold wpPlan
    generalize v4.setRow gx VY = v6 at HX6 HG6 ⊢
    go_wp2
    obtain ⟨u6, hu6⟩ : ∃ u, v6.drew = u := ⟨_, rfl⟩
    have HXU6 := Lib.hid (show AfterH v6 u6 from by rw [← hu6]; exact (Ext.refl v6).drew)
    have LY := Lib.hid (fun (W : World) (h : AftG w gx VY W) => show (Instr.loadAt 30 (.pointer (some ⟨gx, 0, none⟩))).run Tryd.prog W = .ok (.agg VY) W from by
      have h2 := load_blk W gx y 30 (0, 0) (by rw [HVYE.out]; exact h.2)
      unfold dgv at h2
      rw [HVYE.out] at h2
      exact h2)
    have HB := Lib.hid (fun (W : World) (h : AfterH v6 W) => HC3.out W (HX1.out.trans (HX6.out.trans h)) y HY.out.1 HY.out.2)
    rw [HVYE.out] at HB
    refine wp_region_plan (AftG w gx VY) [0, 1, 2, 3, 4, 5, 6, 7] (.yes 0 (.yes 1 (.yes 2 (.yes 3 (.yes 4 (.yes 6 (.one 5 (.one 7 (.one 8 .done))))))))) (by kernel_rfl) (fun c a a' w e h => ⟨e ▸ h.1, h.2⟩) (by kernel_rfl) (by rw [hu6]; exact ⟨HX1.out.trans (HX6.out.trans HXU6.out), WBlk.ext' HG6.out HXU6.out⟩) ?_
    rw [hu6]
    clear hu6
    refine plan_load rfl 30 (.tmp 12) rfl (.agg VY) (by rfl) (fun W hW => LY.out W hW) ?_
    refine plan_yes rfl (fun K hK => ?_); go_simp; refine ⟨_, fun _ _ => rfl, hK _ ?_⟩; clear hK K
    refine plan_yes rfl (fun K hK => ?_); go_simp; refine ⟨_, fun _ _ => rfl, hK _ ?_⟩; clear hK K
    refine plan_yes rfl (fun K hK => ?_); go_simp; refine ⟨_, fun _ _ => rfl, hK _ ?_⟩; clear hK K
    refine plan_load rfl 30 (.tmp 47) rfl (.agg VX) (by rfl) (fun W hW => HLX.out W hW.1) ?_
    refine plan_yes rfl (fun K hK => ?_); go_simp; refine ⟨_, fun _ _ => rfl, hK _ ?_⟩; clear hK K
    refine plan_one rfl (fun K hK => ?_)
    go_wp2_with fail
    refine (HB.out _ HXU6.out).mono ?_
    rintro e w9 ⟨rfl, hx9⟩
    have HX9 := Lib.hid (show AfterH v6 w9 from Ext.trans HXU6.out hx9)
    clear hx9
    obtain ⟨D, hD⟩ : ∃ D, nd sha y x = D := ⟨_, rfl⟩
    have HDL := Lib.hid (show D.length = 32 ∧ Sm D from by rw [← hD]; exact ⟨sha_len _, sha_sm _⟩)
    have HDE := Lib.hid hD
    rw [hD]
    clear hD
    obtain ⟨V, hV⟩ : ∃ V, bt 32 (co D) = V := ⟨_, rfl⟩
    have HVV := Lib.hid hV
    have HV := Lib.hid (show Dgc V D from by rw [← hV]; exact bt_dgc D)
    rw [hV]
    clear hV
    have HC9 := Lib.hid (show AftG w gx VY w9 from ⟨HX1.out.trans (HX6.out.trans HX9.out), WBlk.ext' HG6.out HX9.out⟩)
    go_wp2
    refine ⟨fun _ => HC9.out, ?_⟩
    have HR9 := Lib.hid (WBlk.ext' HR1.out (Ext.trans HX6.out HX9.out))
    have HI9 := Lib.hid HV.out.info
    have HO9 := Lib.hid HV.out.one
    have HZ9 := Lib.hid (show Z.size = V.size from by rw [HV.out.1]; exact HZ32.out ())
    have HG9 := Lib.hid (setRow_heap _ (g0 + 1) _ V _ _ HR9.out)
    have HXF := Lib.hid ((HX1.out.trans (HX6.out.trans HX9.out)).setRow (g := g0 + 1) (by rw [HW0.out]; omega) V)
    refine plan_one rfl (fun K hK => ?_)
    go_wp2_with (with_reducible refine wpList_store_all rfl 30 (.tmp 8) (.tmp 49) rfl (g0 + 1) Z V rfl rfl HR9.out HI9.out HZ9.out HO9.out ?_)
    refine ⟨fun _ => (show AftG w gx VY _ from ⟨HXF.out, setRow_far (by have := HGB.out; have := HZ1.out; omega) HC9.out.2⟩), ?_⟩
    refine plan_one rfl (fun K hK => ?_)
    go_wp2
    refine ⟨fun h => absurd h (by decide), ?_⟩
    unfold wpPlan
    go_wp2
    exact ⟨rfl, .tuple #[.agg V, .bool ok], results_rt Tryd.results32 _ _ (g0 + 1) 30 V (0, 0) rfl HG9.out HI9.out, D, ok, by rw [← HVV.out]; rfl, HDL.out.1, HDL.out.2, HXF.out, by rw [HMX.out, HMY.out, ← HDE.out]; cases ok <;> rfl⟩
end Go.Proofs.YthbfodmpoheahaaDoor

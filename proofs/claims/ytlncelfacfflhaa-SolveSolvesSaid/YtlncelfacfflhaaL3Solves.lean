/-
  The walk of SolveSolves, under what layer 3's functions are to do. Conditions: none beyond the kinds of the arguments.
-/
import Derived.Test.YtlncelfacfflhaaL3Order
namespace Go.Proofs.Ytlncelfacfflhaa
open Go.RowKit
open Pol (co Sm)
open Lin (SolSome SolNone KL)

/-! ### What is told solves -/
theorem dot_ext1 (n : Nat) (r x : Nat → Nat) (hr : r n < 256) : Lin.dot (n + 1) r (Lin.ext1 n x) = Lin.dot n r x ^^^ r n := by
  have e1 : Lin.dot (n + 1) r (Lin.ext1 n x) = Lin.dot n r (Lin.ext1 n x) ^^^ Gf.mul (r n) (Lin.ext1 n x n) := rfl
  have e2 : Lin.dot n r (Lin.ext1 n x) = Lin.dot n r x := Lin.dot_congr (fun _ _ => rfl) (fun k hk => by unfold Lin.ext1; rw [if_pos hk])
  have e3 : Lin.ext1 n x n = 1 := by unfold Lin.ext1; rw [if_neg (by omega), if_pos rfl]
  rw [e1, e2, e3, Gf.mul_comm, Gf.one_mul _ hr]
theorem slv_sol {rows : List (List Nat)} (hb : Lin.Bytes rows) (ht : Rt rows) {x : List Nat} (h : SolSome (KR (wide rows) rows) (wide rows - 1) x) : Slv rows x ∧ x.length + 1 = wide rows := by
  have hw := (ht.2 0 ht.1).1
  have hw' : 1 ≤ wide rows := hw
  have hl : x.length + 1 = wide rows := by rw [h.len]; omega
  refine ⟨fun i hi => ?_, hl⟩
  have hk := h.sol i hi
  rw [show wide rows - 1 = x.length by omega, ← hl] at hk
  have hs : Sm (ro rows i) := hb _ (ro_in rows i hi)
  have hk2 : Lin.dot (x.length + 1) (co (ro rows i)) (Lin.ext1 x.length (co x)) = 0 := hk
  rw [dot_ext1 _ _ _ (hs _)] at hk2
  have hli : (ro rows i).length - 1 = x.length := by
    have h1 : (ro rows i).length = wide rows := (ht.2 i hi).2
    omega
  rw [hli]
  exact Gf.xor_zero_iff _ _ hk2
/-- Solve's answer: elements that solve the rows, or an error. -/
def SolA (rows : List (List Nat)) (w : World) (e : Ending) (w' : World) : Prop :=
  (∃ y, (Rt rows ∧ y.length + 1 = wide rows ∧ Slv rows y) ∧ GivesE y 0 w e w') ∨ ∃ (k : Int), (k == 0) = false ∧ GivesE [] k w e w'
theorem sol_a (C : SolveSaid) (f : Nat) (rows : List (List Nat)) (A : Option Addr) (c : Nat) (w : World) (hf : IsField w f) (hr : RRd w A rows) (hc : rows.length ≤ c) (h : Fit rows) :
    Calls Try.prog 13 #[.pointer (some ⟨f, 0, none⟩), .slice A rows.length c] w (SolA rows w) := by
  by_cases ht : Rt rows
  · refine (C.solve f rows A c w hf hr hc h.1 h.2 ht).mono fun _ _ k => ?_
    rcases k with ⟨y, hy, k⟩ | ⟨_, k⟩
    · have hs := slv_sol hr.sm ht hy
      exact .inl ⟨y, ⟨ht, hs.2, hs.1⟩, k⟩
    · exact .inr ⟨7, rfl, k⟩
  · exact (C.odd f rows A c w hf hr hc h.1 h.2 ht).mono fun _ _ k => .inr ⟨1, rfl, k⟩

/-! ### Rows that elements made -/
def mk1 (rows : List (List Nat)) (x : List Nat) (i : Nat) : List Nat := (ro rows i).take x.length ++ [Pol.xs x.length (fun k => Gf.mul (co (ro rows i) k) (co x k))]
def mkR (rows : List (List Nat)) (x : List Nat) : Nat → List (List Nat)
  | 0 => []
  | k + 1 => mkR rows x k ++ [mk1 rows x k]
theorem mkR_len (rows : List (List Nat)) (x : List Nat) : ∀ k, (mkR rows x k).length = k
  | 0 => rfl
  | k + 1 => by rw [mkR, List.length_append, mkR_len rows x k]; rfl
theorem mkR_ro (rows : List (List Nat)) (x : List Nat) (i : Nat) : ∀ k, i < k → ro (mkR rows x k) i = mk1 rows x i
  | 0, h => by omega
  | k + 1, h => by
    rw [mkR]
    by_cases e : i < k
    · rw [ro_append_left _ _ _ (by rw [mkR_len]; exact e), mkR_ro rows x i k e]
    · obtain rfl : i = k := by omega
      rw [ro_append_right _ _ _ (by rw [mkR_len]; exact Nat.le_refl _), mkR_len, Nat.sub_self]; rfl
theorem co_take (l : List Nat) (n k : Nat) (h : k < n) : co (l.take n) k = co l k := by unfold co; rw [List.getElem?_take, if_pos h]
theorem co_snoc_lt (l : List Nat) (v k : Nat) (h : k < l.length) : co (l ++ [v]) k = co l k := by unfold co; rw [List.getElem?_append_left h]
theorem co_snoc_at (l : List Nat) (v : Nat) : co (l ++ [v]) l.length = v := by unfold co; rw [List.getElem?_append_right (Nat.le_refl _), Nat.sub_self]; rfl
theorem sm_snoc {l : List Nat} {v : Nat} (h : Sm l) (hv : v < 256) : Sm (l ++ [v]) := fun k => by
  by_cases hk : k < l.length
  · rw [co_snoc_lt _ _ _ hk]; exact h k
  · by_cases e : k = l.length
    · rw [e, co_snoc_at]; exact hv
    · unfold co; rw [List.getElem?_eq_none (by simp; omega)]; decide
theorem mk1_len (rows : List (List Nat)) (x : List Nat) (i : Nat) (h : x.length ≤ (ro rows i).length) : (mk1 rows x i).length = x.length + 1 := by
  unfold mk1
  rw [List.length_append, List.length_take, Nat.min_eq_left h]; rfl
theorem sm_take {l : List Nat} (h : Sm l) (n : Nat) : Sm (l.take n) := fun k => by
  by_cases hk : k < n
  · rw [co_take _ _ _ hk]; exact h k
  · unfold co; rw [List.getElem?_take, if_neg hk]; decide
/-- Solve's answer: so many elements that solve the rows. -/
def MadeS (rows : List (List Nat)) (m : Nat) (w : World) (e : Ending) (w' : World) : Prop := ∃ z : List Nat, (z.length = m ∧ Slv rows z) ∧ GivesE z 0 w e w'
theorem made_solves (C : SolveSaid) (rows : List (List Nat)) (x : List Nat) (hx : Sm x) (hlx : x.length ≤ 4000) (h0 : 0 < rows.length) (hl : rows.length ≤ 4096) (hll : ∀ i, i < rows.length → x.length ≤ (ro rows i).length) (f : Nat) (A : Option Addr) (c : Nat) (w : World) (hf : IsField w f) (hr : RRd w A (mkR rows x rows.length)) (hc : rows.length ≤ c) :
    Calls Try.prog 13 #[.pointer (some ⟨f, 0, none⟩), .slice A rows.length c] w (MadeS (mkR rows x rows.length) x.length w) := by
  have hlen := mkR_len rows x rows.length
  have hml : ∀ i, i < (mkR rows x rows.length).length → (ro (mkR rows x rows.length) i).length = x.length + 1 := fun i hi => by
    rw [hlen] at hi
    rw [mkR_ro rows x i _ hi, mk1_len rows x i (hll i hi)]
  have hw : wide (mkR rows x rows.length) = x.length + 1 := hml 0 (by omega)
  have ht : Rt (mkR rows x rows.length) := ⟨by omega, fun i hi => by
    have h1 := hml i hi
    have h2 := hml 0 (by omega)
    omega⟩
  have hbm := hr.sm
  have hsol : KR (wide (mkR rows x rows.length)) (mkR rows x rows.length) (Lin.ext1 (wide (mkR rows x rows.length) - 1) (co x)) := by
    intro i hi
    rw [hw, Nat.add_sub_cancel]
    show Lin.dot (x.length + 1) (co (ro (mkR rows x rows.length) i)) (Lin.ext1 x.length (co x)) = 0
    have hs : Sm (ro (mkR rows x rows.length) i) := hbm _ (ro_in _ i hi)
    rw [dot_ext1 _ _ _ (hs _)]
    rw [hlen] at hi
    rw [mkR_ro rows x i _ hi]
    have ht : ((ro rows i).take x.length).length = x.length := by rw [List.length_take, Nat.min_eq_left (hll i hi)]
    have e1 : co (mk1 rows x i) x.length = Pol.xs x.length (fun k => Gf.mul (co (ro rows i) k) (co x k)) := by
      have := co_snoc_at ((ro rows i).take x.length) (Pol.xs x.length (fun k => Gf.mul (co (ro rows i) k) (co x k)))
      rw [ht] at this
      exact this
    have e2 : Lin.dot x.length (co (mk1 rows x i)) (co x) = Pol.xs x.length (fun k => Gf.mul (co (ro rows i) k) (co x k)) := Pol.xs_congr _ fun k hk => by
      show Gf.mul (co (mk1 rows x i) k) (co x k) = _
      unfold mk1
      rw [co_snoc_lt _ _ _ (by rw [ht]; exact hk), co_take _ _ _ hk]
    rw [e1, e2, Nat.xor_self]
  have hcs := C.solve f (mkR rows x rows.length) A c w hf hr (by rw [hlen]; exact hc) (by rw [hlen]; exact hl) (fun i hi => by rw [hml i hi]; omega) ht
  rw [hlen] at hcs
  refine hcs.mono fun _ _ k => ?_
  rcases k with ⟨z, hz, k⟩ | ⟨hn, _⟩
  · have hs := slv_sol hbm ht hz
    exact ⟨z, ⟨by have := hs.2; omega, hs.1⟩, k⟩
  · exact absurd hsol (hn (co x) hx)
/-- A literal of one row whose block is newer than another one. -/
theorem new_one {w w0 : World} {v : Value} {l : List Nat} {base : Nat} (hm : Mine w0 base v l) (row : Option Nat) (hrow : ∀ k, row = some k → k < base) :
    ∀ i, i < [l].length → ∀ b o n c, (∃ b' o', (some ⟨w.heap.size, 0, none⟩ : Option Addr) = some ⟨b', o', none⟩ ∧ (w.alloc (.cells #[v] 27)).cell? ⟨b', o' + i, none⟩ = some (.slice (some ⟨b, o, none⟩) n c)) → 0 < n → some b ≠ row := by
  rintro i hi b o n c ⟨b', o', e, hc⟩ hn e'
  injection e with e
  injection e with e1 e2
  subst e1; subst e2
  have hi0 : i = 0 := by simpa using hi
  subst hi0
  rw [cell_of_row _ _ _ _ _ _ (heap_alloc_new w _)] at hc
  have hv : v = .slice (some ⟨b, o, none⟩) n c := by simpa using hc
  have h1 := (World.ownsRow.lt hm b (by rw [hv]; rfl)).1
  have := hrow b e'.symm
  omega

set_option maxHeartbeats 1000000 in
set_option maxRecDepth 100000 in
theorem solves3_big (C : SolveSaid) (D : RankSaid) (rows : List (List Nat)) (cut : List Nat) (A B : Option Addr) (c d : Nat) (w : World) (ha : RRd w A rows) (hmax : rows.length ≤ maxLen) (h : ¬ Few rows ∨ 12 < cut.length) :
    Calls Try.prog 4 #[.slice A rows.length c, .slice B cut.length d] w (Holds w) := by
  have HFW := Lib.hid (fun u (hu : Ext w u) => few_says rows A c u (ha.ext hu) hmax)
  have HH := Lib.hid h
  clear ha h
  obtain ⟨m, hm⟩ : ∃ m, cut.length = m := ⟨_, rfl⟩
  rw [hm] at HH ⊢
  clear hm
  generalize rows.length = n at *
  go_enter Try.func4, Try.ntmps4
  go_wp2_with fail
  refine (awake3 C D w).mono ?_
  rintro e w1 ⟨rfl, hx1⟩
  have HX1 := Lib.hid hx1
  clear hx1
  go_wp2_with fail
  refine (HFW.out w1 HX1.out).mono ?_
  rintro e w2 (⟨hp, rfl, q, rfl⟩ | ⟨_, rfl, q, rfl⟩)
  · have t : (12 : Int) < (m : Int) := by
      rcases HH.out with h | h
      · exact absurd hp h
      · omega
    go_wp2_with fail
    refine (awake3 C D (w1.drewN q)).mono ?_
    rintro e w3 ⟨rfl, hx3⟩
    have HX3 := Lib.hid (((HX1.out).drewN q).trans hx3)
    clear hx3
    go_wp2
    go_ret
    exact ⟨rfl, HX3.out⟩
  · go_wp2_with fail
    refine (awake3 C D (w1.drewN q)).mono ?_
    rintro e w3 ⟨rfl, hx3⟩
    have HX3 := Lib.hid (((HX1.out).drewN q).trans hx3)
    clear hx3
    go_wp2
    go_ret
    exact ⟨rfl, HX3.out⟩

set_option maxHeartbeats 4000000 in
set_option maxRecDepth 100000 in
theorem solves3_few (C : SolveSaid) (D : RankSaid) (rows : List (List Nat)) (x : List Nat) (A B : Option Addr) (c d : Nat) (w : World) (ha : RRd w A rows) (hc : rows.length ≤ c) (hb : Rd w B x) (h : Few rows) (hx12 : x.length ≤ 12) :
    Calls Try.prog 4 #[.slice A rows.length c, .slice B x.length d] w (Holds w) := by
  have HFW := Lib.hid (fun u (hu : Ext w u) => few_says rows A c u (ha.ext hu) (by unfold maxLen; have := h.1; omega))
  have HS1 := Lib.hid (fun f u (hf : IsField u f) (hu : Ext w u) => sol_a C f rows A c u hf (ha.ext hu) hc h.fit)
  have HSV := Lib.hid (fun (y : List Nat) B' c' u (hu : Ext w u) (hy : Rd u B' y) (ht : Rt rows) (hl : y.length + 1 = wide rows) => ref_solves rows y A B' c c' u (ha.ext hu) hy (by have := h.1; omega) (by have h1 := h.2 0 ht.1; have h2 : wide rows = (ro rows 0).length := rfl; omega) (fun i hi => by
    have h1 := h.2 i hi
    have h2 : (ro rows i).length = wide rows := (ht.2 i hi).2
    omega))
  have HN0 := Lib.hid (fun f A c u (hf : IsField u f) => C.odd f [] A c u hf (RRd.nil _ _) (Nat.zero_le _) (by decide) (fun i hi => absurd hi (by simp)) not_rt_nil)
  have HMS := Lib.hid (fun (h0 : 0 < rows.length) (hll : ∀ i, i < rows.length → x.length ≤ (ro rows i).length) f E cE u (hf : IsField u f) (hr : RRd u E (mkR rows x rows.length)) (hcE : rows.length ≤ cE) => made_solves C rows x hb.1 (by omega) h0 (by have := h.1; omega) hll f E cE u hf hr hcE)
  have HSM := Lib.hid (fun (z : List Nat) (hz : z.length = x.length) (hll : ∀ i, i < rows.length → x.length ≤ (ro rows i).length) E cE B' c' u (hr : RRd u E (mkR rows x rows.length)) (hy : Rd u B' z) => ref_solves (mkR rows x rows.length) z E B' cE c' u hr hy (by rw [mkR_len]; have := h.1; omega) (by omega) (fun i hi => by
    rw [mkR_len] at hi
    rw [mkR_ro rows x i _ hi, mk1_len rows x i (hll i hi)]
    omega))
  rw [mkR_len] at HSM
  have HSMA := Lib.hid ha.sm
  have hl12 := h.1
  obtain ⟨n, hn⟩ : ∃ n, rows.length = n := ⟨_, rfl⟩
  obtain ⟨m, hm⟩ : ∃ m, x.length = m := ⟨_, rfl⟩
  rw [hn] at hl12 HFW HS1 HSV HMS HSM hc ⊢
  rw [hm] at hx12 HMS HSM ⊢
  have HN := Lib.hid hn
  have HMM := Lib.hid hm
  have HA := Lib.hid ha
  have HB := Lib.hid hb
  have HH := Lib.hid h
  have HMK := Lib.hid (show ∀ k, mk1 rows x k = (ro rows k).take m ++ [Pol.xs m (fun j => Gf.mul (co (ro rows k) j) (co x j))] from fun k => by unfold mk1; rw [hm])
  clear ha hb h hn hm
  have tc : ¬ (12 : Int) < (m : Int) := by omega
  have tcd : decide ((12 : Int) < (m : Int)) = false := by simp; omega
  go_enter Try.func4, Try.ntmps4
  go_wp2_with fail
  refine (awake3 C D w).mono ?_
  rintro e w1 ⟨rfl, hx1⟩
  have HX1 := Lib.hid hx1
  clear hx1
  go_wp2_with fail
  refine (HFW.out w1 HX1.out).mono ?_
  rintro e w2 (⟨_, rfl, q, rfl⟩ | ⟨hp, _⟩)
  rotate_left
  · exact absurd HH.out hp
  go_wp2_with fail
  refine (new_any (w1.drewN q)).mono ?_
  rintro e w3 ⟨f, rfl, hf, hfs, hx3⟩
  have HF := Lib.hid hf
  have HX3 := Lib.hid ((HX1.out.drewN q).trans hx3)
  clear hf hx3 hfs
  go_wp2_with fail
  refine (HS1.out f w3 HF.out HX3.out).mono ?_
  rintro e w4 (⟨y, ⟨hrt, hyl, hsl⟩, v4, rfl, ⟨B4, c4, rfl, _, hr4⟩, hx4⟩ | ⟨k4, hk4, v4, rfl, ⟨B4, c4, rfl, _, _⟩, hx4⟩)
  · have HF4 := Lib.hid (HF.out.ext hx4)
    have HX4 := Lib.hid (HX3.out.trans hx4)
    have HSVC := Lib.hid (HSV.out y B4 c4 w4 (HX3.out.trans hx4) hr4 hrt hyl)
    have HSL := Lib.hid hsl
    clear hx4 hr4 hrt hyl hsl
    go_wp2_with fail
    refine HSVC.out.mono ?_
    rintro e w5 (⟨_, rfl, q5, rfl⟩ | ⟨hp, _⟩)
    rotate_left
    · exact absurd HSL.out hp
    have HFL := Lib.hid (HF4.out.ext ((Ext.refl w4).drewN q5))
    have HXL := Lib.hid (HX4.out.drewN q5)
    generalize hW : w4.drewN q5 = wl at HFL HXL ⊢
    clear hW HF4 HX4 HSVC HSL HS1 HSV
    go_wp2
    go_loopg [8, 45] n (fun g s8 s45 wx => ∃ k : Nat, k + g = n ∧ s45 = .int .i64 (k : Int) ∧ MineR wx wl.heap.size s8 (mkR rows x k) ∧ Ext wl wx ∧ ∀ i, i < k → m ≤ (ro rows i).length)
    case atStart => exact ⟨0, by omega, rfl, MineR.nil _ _, Ext.refl _, fun i hi => by omega⟩
    case round =>
      obtain ⟨k, hkg, rfl, hmr, hx, hall⟩ := hrel
      have HM := Lib.hid hmr
      have HX := Lib.hid hx
      have HALL := Lib.hid hall
      clear hmr hx hall
      cases gk with
      | zero =>
        obtain rfl : k = n := by omega
        clear hkg
        obtain ⟨E, cE, hv, hcE, hrE⟩ := HM.out.slice
        rw [mkR_len] at hv hcE
        subst hv
        have HRE := Lib.hid hrE
        clear hrE
        by_cases h0 : k = 0
        · subst h0
          go_wp2_with fail
          refine (HN0.out f E cE wr (HFL.out.ext HX.out)).mono ?_
          rintro e w8 ⟨v8, rfl, ⟨B8, c8, rfl, _, _⟩, hx8⟩
          have HX8 := Lib.hid (HXL.out.trans (HX.out.trans hx8))
          clear hx8
          go_wp2
          go_ret
          exact ⟨rfl, HX8.out⟩
        · have tk : ((k : Int) == 0) = false := by simp; omega
          have HMC := Lib.hid (HMS.out (by omega) HALL.out f E cE wr (HFL.out.ext HX.out) HRE.out hcE)
          clear h0
          go_wp2_with fail
          refine HMC.out.mono ?_
          rintro e w8 ⟨z, ⟨hz, hsl⟩, v8, rfl, ⟨B8, c8, rfl, _, hr8⟩, hx8⟩
          have HX8 := Lib.hid (HXL.out.trans (HX.out.trans hx8))
          have HSMC := Lib.hid (HSM.out z hz HALL.out E cE B8 c8 w8 (HRE.out.ext hx8) hr8)
          have HSL := Lib.hid hsl
          have tz : ((z.length : Int) == (m : Int)) = true := by rw [hz]; simp
          clear hx8 hr8 hsl hz
          go_wp2_with fail
          refine HSMC.out.mono ?_
          rintro e w9 (⟨_, rfl, q9, rfl⟩ | ⟨hp, _⟩)
          rotate_left
          · exact absurd HSL.out hp
          go_wp2
          go_ret
          exact ⟨rfl, HX8.out.drewN q9⟩
      | succ g =>
        have hk : k < n := by omega
        have hkI : (k : Int) < (n : Int) := by omega
        obtain ⟨b1, o1, B1, c1, rfl, hc1, hl1, hr1⟩ := (HA.out.ext (HXL.out.trans HX.out)) k (by rw [HN.out]; exact hk)
        have hl := HH.out.2 k (by rw [HN.out]; exact hk)
        have HR1 := Lib.hid hr1
        clear hr1
        obtain ⟨li, hli⟩ : ∃ li, (ro rows k).length = li := ⟨_, rfl⟩
        rw [hli] at hc1 hl hl1
        have HLI := Lib.hid hli
        clear hli
        by_cases hlt : li < m
        · have t : (li : Int) < (m : Int) := by omega
          go_wp2
          go_ret
          exact ⟨rfl, HXL.out.trans HX.out⟩
        · have t : ¬ (li : Int) < (m : Int) := by omega
          have tmc : (m : Int) ≤ (c1 : Int) := by omega
          have HTK := Lib.hid (show ((ro rows k).take m).length = m from by rw [List.length_take, HLI.out]; omega)
          have HRT := Lib.hid (HR1.out.take m)
          have HSK := Lib.hid (sm_take HR1.out.1 m)
          have hc1a : (wr.alloc (.cells #[] 5)).cell? ⟨b1, o1 + k, none⟩ = some (.slice B1 li c1) := (((Ext.refl wr).alloc _).below.cell (p := ⟨b1, o1 + k, none⟩) (block_lt_of_cell hc1)).trans hc1
          have hsx := HX.out.size
          go_wp2_with (first
            | (at_builtin; refine wpList_append_rd rfl (.tmp 56) (.tmp 63) rfl wr.heap.size (.slice (some ⟨wr.heap.size, 0, none⟩) 0 0) [] ((ro rows k).take m) rfl (mine_empty wr) _ _ c1 rfl HTK.out (HRT.out.ext ((Ext.refl wr).alloc _)) (by rw [HTK.out, List.length_nil]; omega) (by simp) ?_; intro v5 w5 hown5 hg5 hat5
               rw [List.nil_append] at hown5
               obtain ⟨B5, c5, hv5, hc5, hr5⟩ := hown5.slice HSK.out
               rw [HTK.out] at hv5 hc5
               subst hv5
               have hx5 : Ext wr w5 := ((Ext.refl wr).alloc _).more hg5 (by intro k hk; simp [Value.ownBlock] at hk; omega)
               have HO5 := Lib.hid hown5
               have HX5 := Lib.hid hx5
               have HR5 := Lib.hid hr5
               clear hown5 hg5 hat5 hx5 hr5 hc1a)
            | fail)
          go_wp2
          obtain ⟨wq, hwq⟩ : ∃ wq, wq = wr := ⟨_, rfl⟩
          subst hwq
          go_loopg [11, 67] m (fun g2 s11 s67 wx => ∃ j q' : Nat, j + g2 = m ∧ s67 = .int .i64 (j : Int) ∧ s11 = .int .u8 ((Pol.xs j (fun k' => Gf.mul (co (ro rows k) k') (co x k')) : Nat) : Int) ∧ wx = w5.drewN q')
          case atStart => exact ⟨0, 0, by omega, rfl, rfl, rfl⟩
          case round =>
            obtain ⟨j, q', hjg, rfl, rfl, rfl⟩ := hrel
            cases gk with
            | zero =>
              obtain rfl : j = m := by omega
              clear hjg
              have hsv : Pol.xs j (fun k' => Gf.mul (co (ro rows k) k') (co x k')) < 256 := Pol.xs_lt j (fun _ _ => Gf.mul_lt _ _)
              have hmk := HMK.out k
              obtain ⟨sv, hsve⟩ : ∃ sv, Pol.xs j (fun k' => Gf.mul (co (ro rows k) k') (co x k')) = sv := ⟨_, rfl⟩
              rw [hsve] at hsv hmk ⊢
              have HMK1 := Lib.hid hmk
              have HOW := Lib.hid (mine_ext HO5.out ((Ext.refl w5).drewN q'))
              have HXW := Lib.hid (HX5.out.drewN q')
              have HSMK := Lib.hid (show Sm ((ro rows k).take j ++ [sv]) from sm_snoc HSK.out hsv)
              clear hmk hsve
              generalize hW : w5.drewN q' = W at HOW HXW ⊢
              clear hW
              have hsw := HXW.out.size
              go_wp2_with (first
                | (at_builtin; refine wpList_append_rd rfl (.tmp 83) (.tmp 85) rfl wq.heap.size (.slice B5 j c5) ((ro rows k).take j) [sv] rfl (mine_ext HOW.out ((Ext.refl W).alloc _)) (some ⟨W.heap.size, 0, none⟩) 1 1 rfl rfl (rd_one W sv hsv) (by rw [HTK.out]; simp; omega) (by simp; omega) ?_; intro v7 w7 hown7 hg7 hat7
                   rw [← HMK1.out] at hown7
                   obtain ⟨B7, c7, hv7, hc7, hr7⟩ := hown7.slice (by rw [HMK1.out]; exact HSMK.out)
                   have hl7 : (mk1 rows x k).length = j + 1 := by rw [HMK1.out, List.length_append, HTK.out]; rfl
                   have hx7 : Ext wq w7 := (HXW.out.alloc _).more hg7 (fun q hq => (World.ownsRow.lt HOW.out q hq).1)
                   have HFAR := Lib.hid (new_one (w := w7) hown7 u8.ownBlock (fun q hq => (HM.out.block q hq).2))
                   have HRR := Lib.hid (rrd_lit w7 [v7] [mk1 rows x k] (rowsV_one ⟨B7, c7, hv7, hc7, hr7⟩))
                   rw [hl7] at hv7
                   subst hv7
                   have HX7 := Lib.hid hx7
                   have hs7 := hx7.size
                   clear hown7 hg7 hat7 hx7 hr7 hl7 hc7)
                | (at_builtin; refine wpList_append_rows rfl (.tmp 82) (.tmp 87) rfl wl.heap.size u8 (mkR rows x k) [mk1 rows x k] rfl (HM.out.ext (HX7.out.alloc _)) (some ⟨w7.heap.size, 0, none⟩) 1 1 rfl rfl HRR.out HFAR.out (by rw [mkR_len]; simp; omega) (by simp; omega) ?_; intro v9 w9 hown9 hg9 hat9
                   have hx9 : Ext wl w9 := ((HX.out.trans HX7.out).alloc _).more hg9 (fun q hq => (HM.out.block q hq).1)
                   have HO9 := Lib.hid hown9
                   have HX9 := Lib.hid hx9
                   clear hown9 hg9 hat9 hx9)
                | fail)
              go_wp2
              go_roundg g
              case measure => omega
              case rel => exact ⟨k + 1, by omega, by go_num, HO9.out, HX9.out, fun i hi => by
                by_cases e : i = k
                · rw [e]; have := HLI.out; omega
                · exact HALL.out i (by omega)⟩
            | succ g2 =>
              have hj : j < m := by omega
              have hjI : (j : Int) < (m : Int) := by omega
              obtain ⟨b2, o2, rfl, hc2⟩ := HR5.out.2 j (by rw [HTK.out]; exact hj)
              obtain ⟨b3, o3, rfl, hc3⟩ := (HB.out.ext (HXL.out.trans (HX.out.trans HX5.out))).2 j (by rw [HMM.out]; exact hj)
              rw [co_take _ _ _ hj] at hc2
              have hxl : Pol.xs j (fun k' => Gf.mul (co (ro rows k) k') (co x k')) < 256 := Pol.xs_lt j (fun _ _ => Gf.mul_lt _ _)
              have hxor := u8_xor_nat _ _ hxl (Gf.mul_lt (co (ro rows k) j) (co x j))
              have HXO := Lib.hid hxor
              have HMU := Lib.hid (fun W => ref_mul (co (ro rows k) j) (co x j) (HR1.out.1 j) (HB.out.1 j) W)
              clear hxor hxl
              have d1 : (w5.drewN q').cell? ⟨b2, o2 + j, none⟩ = some (.int .u8 ((co (ro rows k) j : Nat) : Int)) := hc2
              have d2 : (w5.drewN q').cell? ⟨b3, o3 + j, none⟩ = some (.int .u8 ((co x j : Nat) : Int)) := hc3
              generalize hW : w5.drewN q' = W at d1 d2 ⊢
              have HW := Lib.hid hW
              clear hW hc2 hc3
              go_wp2
              go_quiet (first | (go_at_call 20; exact quiet_same (HMU.out _)))
              go_wp2
              go_roundg g2
              case measure => omega
              case rel => exact ⟨j + 1, q' + nq, by omega, by go_num, congrArg (Value.int IntKind.u8) HXO.out, by rw [← HW.out, World.drewN_drewN]⟩
  · have HFL := Lib.hid (HF.out.ext hx4)
    have HXL := Lib.hid (HX3.out.trans hx4)
    clear hx4 HS1 HSV
    obtain ⟨wl, hwl⟩ : ∃ wl, wl = w4 := ⟨_, rfl⟩
    subst hwl
    go_wp2
    go_loopg [8, 45] n (fun g s8 s45 wx => ∃ k : Nat, k + g = n ∧ s45 = .int .i64 (k : Int) ∧ MineR wx wl.heap.size s8 (mkR rows x k) ∧ Ext wl wx ∧ ∀ i, i < k → m ≤ (ro rows i).length)
    case atStart => exact ⟨0, by omega, rfl, MineR.nil _ _, Ext.refl _, fun i hi => by omega⟩
    case round =>
      obtain ⟨k, hkg, rfl, hmr, hx, hall⟩ := hrel
      have HM := Lib.hid hmr
      have HX := Lib.hid hx
      have HALL := Lib.hid hall
      clear hmr hx hall
      cases gk with
      | zero =>
        obtain rfl : k = n := by omega
        clear hkg
        obtain ⟨E, cE, hv, hcE, hrE⟩ := HM.out.slice
        rw [mkR_len] at hv hcE
        subst hv
        have HRE := Lib.hid hrE
        clear hrE
        by_cases h0 : k = 0
        · subst h0
          go_wp2_with fail
          refine (HN0.out f E cE wr (HFL.out.ext HX.out)).mono ?_
          rintro e w8 ⟨v8, rfl, ⟨B8, c8, rfl, _, _⟩, hx8⟩
          have HX8 := Lib.hid (HXL.out.trans (HX.out.trans hx8))
          clear hx8
          go_wp2
          go_ret
          exact ⟨rfl, HX8.out⟩
        · have tk : ((k : Int) == 0) = false := by simp; omega
          have HMC := Lib.hid (HMS.out (by omega) HALL.out f E cE wr (HFL.out.ext HX.out) HRE.out hcE)
          clear h0
          go_wp2_with fail
          refine HMC.out.mono ?_
          rintro e w8 ⟨z, ⟨hz, hsl⟩, v8, rfl, ⟨B8, c8, rfl, _, hr8⟩, hx8⟩
          have HX8 := Lib.hid (HXL.out.trans (HX.out.trans hx8))
          have HSMC := Lib.hid (HSM.out z hz HALL.out E cE B8 c8 w8 (HRE.out.ext hx8) hr8)
          have HSL := Lib.hid hsl
          have tz : ((z.length : Int) == (m : Int)) = true := by rw [hz]; simp
          clear hx8 hr8 hsl hz
          go_wp2_with fail
          refine HSMC.out.mono ?_
          rintro e w9 (⟨_, rfl, q9, rfl⟩ | ⟨hp, _⟩)
          rotate_left
          · exact absurd HSL.out hp
          go_wp2
          go_ret
          exact ⟨rfl, HX8.out.drewN q9⟩
      | succ g =>
        have hk : k < n := by omega
        have hkI : (k : Int) < (n : Int) := by omega
        obtain ⟨b1, o1, B1, c1, rfl, hc1, hl1, hr1⟩ := (HA.out.ext (HXL.out.trans HX.out)) k (by rw [HN.out]; exact hk)
        have hl := HH.out.2 k (by rw [HN.out]; exact hk)
        have HR1 := Lib.hid hr1
        clear hr1
        obtain ⟨li, hli⟩ : ∃ li, (ro rows k).length = li := ⟨_, rfl⟩
        rw [hli] at hc1 hl hl1
        have HLI := Lib.hid hli
        clear hli
        by_cases hlt : li < m
        · have t : (li : Int) < (m : Int) := by omega
          go_wp2
          go_ret
          exact ⟨rfl, HXL.out.trans HX.out⟩
        · have t : ¬ (li : Int) < (m : Int) := by omega
          have tmc : (m : Int) ≤ (c1 : Int) := by omega
          have HTK := Lib.hid (show ((ro rows k).take m).length = m from by rw [List.length_take, HLI.out]; omega)
          have HRT := Lib.hid (HR1.out.take m)
          have HSK := Lib.hid (sm_take HR1.out.1 m)
          have hc1a : (wr.alloc (.cells #[] 5)).cell? ⟨b1, o1 + k, none⟩ = some (.slice B1 li c1) := (((Ext.refl wr).alloc _).below.cell (p := ⟨b1, o1 + k, none⟩) (block_lt_of_cell hc1)).trans hc1
          have hsx := HX.out.size
          go_wp2_with (first
            | (at_builtin; refine wpList_append_rd rfl (.tmp 56) (.tmp 63) rfl wr.heap.size (.slice (some ⟨wr.heap.size, 0, none⟩) 0 0) [] ((ro rows k).take m) rfl (mine_empty wr) _ _ c1 rfl HTK.out (HRT.out.ext ((Ext.refl wr).alloc _)) (by rw [HTK.out, List.length_nil]; omega) (by simp) ?_; intro v5 w5 hown5 hg5 hat5
               rw [List.nil_append] at hown5
               obtain ⟨B5, c5, hv5, hc5, hr5⟩ := hown5.slice HSK.out
               rw [HTK.out] at hv5 hc5
               subst hv5
               have hx5 : Ext wr w5 := ((Ext.refl wr).alloc _).more hg5 (by intro k hk; simp [Value.ownBlock] at hk; omega)
               have HO5 := Lib.hid hown5
               have HX5 := Lib.hid hx5
               have HR5 := Lib.hid hr5
               clear hown5 hg5 hat5 hx5 hr5 hc1a)
            | fail)
          go_wp2
          obtain ⟨wq, hwq⟩ : ∃ wq, wq = wr := ⟨_, rfl⟩
          subst hwq
          go_loopg [11, 67] m (fun g2 s11 s67 wx => ∃ j q' : Nat, j + g2 = m ∧ s67 = .int .i64 (j : Int) ∧ s11 = .int .u8 ((Pol.xs j (fun k' => Gf.mul (co (ro rows k) k') (co x k')) : Nat) : Int) ∧ wx = w5.drewN q')
          case atStart => exact ⟨0, 0, by omega, rfl, rfl, rfl⟩
          case round =>
            obtain ⟨j, q', hjg, rfl, rfl, rfl⟩ := hrel
            cases gk with
            | zero =>
              obtain rfl : j = m := by omega
              clear hjg
              have hsv : Pol.xs j (fun k' => Gf.mul (co (ro rows k) k') (co x k')) < 256 := Pol.xs_lt j (fun _ _ => Gf.mul_lt _ _)
              have hmk := HMK.out k
              obtain ⟨sv, hsve⟩ : ∃ sv, Pol.xs j (fun k' => Gf.mul (co (ro rows k) k') (co x k')) = sv := ⟨_, rfl⟩
              rw [hsve] at hsv hmk ⊢
              have HMK1 := Lib.hid hmk
              have HOW := Lib.hid (mine_ext HO5.out ((Ext.refl w5).drewN q'))
              have HXW := Lib.hid (HX5.out.drewN q')
              have HSMK := Lib.hid (show Sm ((ro rows k).take j ++ [sv]) from sm_snoc HSK.out hsv)
              clear hmk hsve
              generalize hW : w5.drewN q' = W at HOW HXW ⊢
              clear hW
              have hsw := HXW.out.size
              go_wp2_with (first
                | (at_builtin; refine wpList_append_rd rfl (.tmp 83) (.tmp 85) rfl wq.heap.size (.slice B5 j c5) ((ro rows k).take j) [sv] rfl (mine_ext HOW.out ((Ext.refl W).alloc _)) (some ⟨W.heap.size, 0, none⟩) 1 1 rfl rfl (rd_one W sv hsv) (by rw [HTK.out]; simp; omega) (by simp; omega) ?_; intro v7 w7 hown7 hg7 hat7
                   rw [← HMK1.out] at hown7
                   obtain ⟨B7, c7, hv7, hc7, hr7⟩ := hown7.slice (by rw [HMK1.out]; exact HSMK.out)
                   have hl7 : (mk1 rows x k).length = j + 1 := by rw [HMK1.out, List.length_append, HTK.out]; rfl
                   have hx7 : Ext wq w7 := (HXW.out.alloc _).more hg7 (fun q hq => (World.ownsRow.lt HOW.out q hq).1)
                   have HFAR := Lib.hid (new_one (w := w7) hown7 u8.ownBlock (fun q hq => (HM.out.block q hq).2))
                   have HRR := Lib.hid (rrd_lit w7 [v7] [mk1 rows x k] (rowsV_one ⟨B7, c7, hv7, hc7, hr7⟩))
                   rw [hl7] at hv7
                   subst hv7
                   have HX7 := Lib.hid hx7
                   have hs7 := hx7.size
                   clear hown7 hg7 hat7 hx7 hr7 hl7 hc7)
                | (at_builtin; refine wpList_append_rows rfl (.tmp 82) (.tmp 87) rfl wl.heap.size u8 (mkR rows x k) [mk1 rows x k] rfl (HM.out.ext (HX7.out.alloc _)) (some ⟨w7.heap.size, 0, none⟩) 1 1 rfl rfl HRR.out HFAR.out (by rw [mkR_len]; simp; omega) (by simp; omega) ?_; intro v9 w9 hown9 hg9 hat9
                   have hx9 : Ext wl w9 := ((HX.out.trans HX7.out).alloc _).more hg9 (fun q hq => (HM.out.block q hq).1)
                   have HO9 := Lib.hid hown9
                   have HX9 := Lib.hid hx9
                   clear hown9 hg9 hat9 hx9)
                | fail)
              go_wp2
              go_roundg g
              case measure => omega
              case rel => exact ⟨k + 1, by omega, by go_num, HO9.out, HX9.out, fun i hi => by
                by_cases e : i = k
                · rw [e]; have := HLI.out; omega
                · exact HALL.out i (by omega)⟩
            | succ g2 =>
              have hj : j < m := by omega
              have hjI : (j : Int) < (m : Int) := by omega
              obtain ⟨b2, o2, rfl, hc2⟩ := HR5.out.2 j (by rw [HTK.out]; exact hj)
              obtain ⟨b3, o3, rfl, hc3⟩ := (HB.out.ext (HXL.out.trans (HX.out.trans HX5.out))).2 j (by rw [HMM.out]; exact hj)
              rw [co_take _ _ _ hj] at hc2
              have hxl : Pol.xs j (fun k' => Gf.mul (co (ro rows k) k') (co x k')) < 256 := Pol.xs_lt j (fun _ _ => Gf.mul_lt _ _)
              have hxor := u8_xor_nat _ _ hxl (Gf.mul_lt (co (ro rows k) j) (co x j))
              have HXO := Lib.hid hxor
              have HMU := Lib.hid (fun W => ref_mul (co (ro rows k) j) (co x j) (HR1.out.1 j) (HB.out.1 j) W)
              clear hxor hxl
              have d1 : (w5.drewN q').cell? ⟨b2, o2 + j, none⟩ = some (.int .u8 ((co (ro rows k) j : Nat) : Int)) := hc2
              have d2 : (w5.drewN q').cell? ⟨b3, o3 + j, none⟩ = some (.int .u8 ((co x j : Nat) : Int)) := hc3
              generalize hW : w5.drewN q' = W at d1 d2 ⊢
              have HW := Lib.hid hW
              clear hW hc2 hc3
              go_wp2
              go_quiet (first | (go_at_call 20; exact quiet_same (HMU.out _)))
              go_wp2
              go_roundg g2
              case measure => omega
              case rel => exact ⟨j + 1, q' + nq, by omega, by go_num, congrArg (Value.int IntKind.u8) HXO.out, by rw [← HW.out, World.drewN_drewN]⟩

theorem solves3_walk (C : SolveSaid) (D : RankSaid) (rows : List (List Nat)) (x : List Nat) (A B : Option Addr) (c d : Nat) (w : World) (ha : RRd w A rows) (hmax : rows.length ≤ maxLen) (hc : rows.length ≤ c) (hb : Rd w B x) :
    Calls Try.prog 4 #[.slice A rows.length c, .slice B x.length d] w (Holds w) := by
  by_cases h : Few rows
  · by_cases hx : x.length ≤ 12
    · exact solves3_few C D rows x A B c d w ha hc hb h hx
    · exact solves3_big C D rows x A B c d w ha hmax (.inr (by omega))
  · exact solves3_big C D rows x A B c d w ha hmax (.inl h)
end Go.Proofs.Ytlncelfacfflhaa

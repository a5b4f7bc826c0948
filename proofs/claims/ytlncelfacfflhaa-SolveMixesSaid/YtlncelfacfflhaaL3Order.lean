/-
  The walk of SolveOrder, under what layer 3's functions are to do. Conditions: none beyond the kinds of the arguments.
-/
import Derived.Test.YtlncelfacfflhaaS3Ans
import Derived.Test.YtlncelfacfflhaaFMul
namespace Go.Proofs.Ytlncelfacfflhaa
open Go.RowKit
open Pol (co Sm)

theorem mine_nil0 (w : World) (base : Nat) : Mine w base (.slice none 0 0) [] := World.ownsRow_nil w base 5 1
theorem tab_take (n : Nat) (f : Nat → Nat) (k : Nat) (h : k < n) : (tab n f).take (k + 1) = (tab n f).take k ++ [f k] := by
  have hl : k < (tab n f).length := by rw [tab_len]; exact h
  rw [List.take_succ_eq_append_getElem hl]
  have e : (tab n f)[k] = f k := by simp [tab]
  rw [e]
theorem mine_ext {w w' : World} {base : Nat} {v : Value} {l : List Nat} (h : Mine w base v l) (hx : Ext w w') : Mine w' base v l :=
  World.ownsRow.kept h (row := none) ⟨hx.below.os, hx.below.tape, hx.below.output, hx.below.size, fun k hk _ => hx.below.block k hk⟩ (by
    cases hb : v.ownBlock with
    | none => exact .inl rfl
    | some k => exact .inr (by simp))
theorem mineR_mono {w : World} {base base' : Nat} {v : Value} {rows : List (List Nat)} (h : MineR w base v rows) (hb : base' ≤ base) : MineR w base' v rows := by
  obtain ⟨vs, hown, hv, hf⟩ := h.has
  refine ⟨vs, ⟨hown.1, ?_⟩, hv, hf⟩
  rcases hown.2 with h0 | ⟨g, cap, cur, e, hg, rest⟩
  · exact .inl h0
  · exact .inr ⟨g, cap, cur, e, by omega, rest⟩
/-- A literal of one row, as a slice of the call's own. -/
theorem mineR_lit {w : World} {v : Value} {l : List Nat} (h : Sl w v l) : MineR (w.alloc (.cells #[v] 27)) w.heap.size (.slice (some ⟨w.heap.size, 0, none⟩) 1 1) [l] := by
  have hv := rowsV_one h
  refine ⟨[v], World.ownsRow_lit w #[v] 1 (Nat.le_refl _) (by unfold maxLen; omega) rfl, hv.ext ((Ext.refl w).alloc _), fun i b o n c hi hn e => ?_⟩
  have hb := hv.lt hi hn
  have e' : b = w.heap.size := by simpa [Value.ownBlock] using e
  omega
theorem far_mineR {w : World} {base : Nat} {v : Value} {rows : List (List Nat)} (h : MineR w base v rows) {A : Option Addr} {c : Nat} (hv : v = .slice A rows.length c) (row : Option Nat) (hrow : ∀ k, row = some k → w.heap.size ≤ k) {w' : World} (hx : Ext w w') :
    ∀ i, i < rows.length → ∀ b o n c, (∃ b' o', A = some ⟨b', o', none⟩ ∧ w'.cell? ⟨b', o' + i, none⟩ = some (.slice (some ⟨b, o, none⟩) n c)) → 0 < n → some b ≠ row := by
  obtain ⟨A', c', hv', _, hr⟩ := h.slice
  rw [hv'] at hv
  injection hv with h1 h2 h3
  subst h1
  exact hr.old hx row hrow

set_option maxHeartbeats 1000000 in
set_option maxRecDepth 100000 in
theorem order3_big (C : SolveSaid) (D : RankSaid) (rows : List (List Nat)) (y : Nat) (A : Option Addr) (c : Nat) (w : World) (ha : RRd w A rows) (hmax : rows.length ≤ maxLen) (h : ¬ Few rows ∨ rows.length = 0 ∨ y = 0) :
    Calls Try.prog 5 #[.slice A rows.length c, .int .u8 (y : Int)] w (Holds w) := by
  have HFW := Lib.hid (fun u (hu : Ext w u) => few_says rows A c u (ha.ext hu) hmax)
  have HH := Lib.hid h
  clear ha h
  generalize rows.length = n at *
  by_cases hn : n = 0
  · have tn : ((n : Int) == 0) = true := by simp [hn]
    clear hn
    go_enter Try.func5, Try.ntmps5
    go_wp2_with fail
    refine (awake3 C D w).mono ?_
    rintro e w1 ⟨rfl, hx1⟩
    have HX1 := Lib.hid hx1
    clear hx1
    go_wp2_with fail
    refine (HFW.out w1 HX1.out).mono ?_
    rintro e w2 (⟨_, rfl, q, rfl⟩ | ⟨_, rfl, q, rfl⟩)
    all_goals
      go_wp2_with fail
      refine (awake3 C D (w1.drewN q)).mono ?_
      rintro e w3 ⟨rfl, hx3⟩
      have HX3 := Lib.hid (((HX1.out).drewN q).trans hx3)
      clear hx3
      go_wp2
      go_ret
      exact ⟨rfl, HX3.out⟩
  · have tn : ((n : Int) == 0) = false := by simp; omega
    by_cases hy : y = 0
    · have ty : ((y : Int) == 0) = true := by simp [hy]
      clear hy
      go_enter Try.func5, Try.ntmps5
      go_wp2_with fail
      refine (awake3 C D w).mono ?_
      rintro e w1 ⟨rfl, hx1⟩
      have HX1 := Lib.hid hx1
      clear hx1
      go_wp2_with fail
      refine (HFW.out w1 HX1.out).mono ?_
      rintro e w2 (⟨_, rfl, q, rfl⟩ | ⟨_, rfl, q, rfl⟩)
      all_goals
        go_wp2_with fail
        refine (awake3 C D (w1.drewN q)).mono ?_
        rintro e w3 ⟨rfl, hx3⟩
        have HX3 := Lib.hid (((HX1.out).drewN q).trans hx3)
        clear hx3
        go_wp2
        go_ret
        exact ⟨rfl, HX3.out⟩
    · have hnf : ¬ Few rows := by
        rcases HH.out with h | h | h
        · exact h
        · exact absurd h hn
        · exact absurd h hy
      have HNF := Lib.hid hnf
      clear hnf hy hn
      go_enter Try.func5, Try.ntmps5
      go_wp2_with fail
      refine (awake3 C D w).mono ?_
      rintro e w1 ⟨rfl, hx1⟩
      have HX1 := Lib.hid hx1
      clear hx1
      go_wp2_with fail
      refine (HFW.out w1 HX1.out).mono ?_
      rintro e w2 (⟨hp, _⟩ | ⟨_, rfl, q, rfl⟩)
      · exact absurd hp HNF.out
      · go_wp2_with fail
        refine (awake3 C D (w1.drewN q)).mono ?_
        rintro e w3 ⟨rfl, hx3⟩
        have HX3 := Lib.hid (((HX1.out).drewN q).trans hx3)
        clear hx3
        go_wp2
        go_ret
        exact ⟨rfl, HX3.out⟩

set_option maxHeartbeats 4000000 in
set_option maxRecDepth 100000 in
theorem order3_few (C : SolveSaid) (D : RankSaid) (rows : List (List Nat)) (y : Nat) (A : Option Addr) (c : Nat) (w : World) (ha : RRd w A rows) (hc : rows.length ≤ c) (h : Few rows) (h0 : 0 < rows.length) (hy : y < 256) (y0 : y ≠ 0) :
    Calls Try.prog 5 #[.slice A rows.length c, .int .u8 (y : Int)] w (Holds w) := by
  have HFW := Lib.hid (fun u (hu : Ext w u) => few_says rows A c u (ha.ext hu) (by unfold maxLen; have := h.1; omega))
  obtain ⟨x, kk, d, ee, hA1, hA2, hxl⟩ := order_both C D rows y ha.sm h h0 hy y0
  have HS1 := Lib.hid (fun f u (hf : IsField u f) (hu : Ext w u) => hA1.solve f A c u hf (ha.ext hu) hc)
  have HR1 := Lib.hid (fun f u (hf : IsField u f) (hu : Ext w u) => hA1.rank f A c u hf (ha.ext hu) hc)
  have hlb : (bk rows y rows.length ++ [ro rows 0]).length = rows.length + 1 := by rw [List.length_append, bk_len]; rfl
  have HS2 := Lib.hid (fun f B cB u (hf : IsField u f) (hr : RRd u B (bk rows y rows.length ++ [ro rows 0])) (hcB : (bk rows y rows.length ++ [ro rows 0]).length ≤ cB) => hA2.solve f B cB u hf hr hcB)
  have HR2 := Lib.hid (fun f B cB u (hf : IsField u f) (hr : RRd u B (bk rows y rows.length ++ [ro rows 0])) (hcB : (bk rows y rows.length ++ [ro rows 0]).length ≤ cB) => hA2.rank f B cB u hf hr hcB)
  rw [hlb] at HS2 HR2
  have HSM := Lib.hid ha.sm
  have hl12 := h.1
  obtain ⟨n, hn⟩ : ∃ n, rows.length = n := ⟨_, rfl⟩
  rw [hn] at hl12 HFW HS1 HR1 HS2 HR2 h0 hc ⊢
  have HN := Lib.hid hn
  have HA := Lib.hid ha
  have HH := Lib.hid h
  clear ha h hn hA1 hA2 hlb
  have tn : ((n : Int) == 0) = false := by simp; omega
  have ty : ((y : Int) == 0) = false := by simp; omega
  have hnI : (0 : Int) < (n : Int) := by omega
  go_enter Try.func5, Try.ntmps5
  go_wp2_with fail
  refine (awake3 C D w).mono ?_
  rintro e w1 ⟨rfl, hx1⟩
  have HX1 := Lib.hid hx1
  clear hx1
  go_wp2_with fail
  refine (HFW.out w1 HX1.out).mono ?_
  rintro e w2 (⟨_, rfl, q, rfl⟩ | ⟨hp, _⟩)
  rotate_left
  · exact absurd HH.out hp
  go_wp2_with fail
  refine (new_any (w1.drewN q)).mono ?_
  rintro e w3 ⟨f, rfl, hf, hfs, hx3⟩
  have HF := Lib.hid hf
  have HX3 := Lib.hid ((HX1.out.drewN q).trans hx3)
  have hs3 := ((HX1.out.drewN q).trans hx3).size
  clear hf hx3 hfs
  go_wp2
  go_loopg [6, 38] n (fun g s6 s38 wx => ∃ k : Nat, k + g = n ∧ s38 = .int .i64 (k : Int) ∧ MineR wx w3.heap.size s6 (bk rows y k) ∧ Ext w3 wx)
  case atStart => exact ⟨0, by omega, rfl, MineR.nil _ _, Ext.refl _⟩
  case round =>
    obtain ⟨k, hkg, rfl, hmr, hx⟩ := hrel
    have HM := Lib.hid hmr
    have HX := Lib.hid hx
    clear hmr hx
    cases gk with
    | zero =>
      obtain rfl : k = n := by omega
      clear hkg
      obtain ⟨b1, o1, B1, c1, hAe, hc1, hl1, hr1⟩ := HA.out 0 (by rw [HN.out]; exact h0)
      rw [Nat.add_zero] at hc1
      have hc1' : wr.cell? ⟨b1, o1, none⟩ = some (.slice B1 (ro rows 0).length c1) := ((HX3.out.trans HX.out).below.cell (p := ⟨b1, o1, none⟩) (block_lt_of_cell hc1)).trans hc1
      have HFAR := Lib.hid (old_one (w := wr) (cB := c1) hr1 u6.ownBlock (fun k hk => by have := (HM.out.block k hk).1; omega))
      have HRR := Lib.hid (rrd_lit wr [.slice B1 (ro rows 0).length c1] [ro rows 0] (rowsV_one ⟨B1, c1, rfl, hl1, hr1.ext (HX3.out.trans HX.out)⟩))
      have HBL := Lib.hid (bk_len rows y k)
      have hsx := HX.out.size
      subst hAe
      clear hc1 hr1
      generalize hl0 : (ro rows 0).length = l0 at *
      clear hl0
      go_wp2_with (first
        | (at_builtin; refine wpList_append_rows rfl (.tmp 68) (.tmp 72) rfl w3.heap.size u6 (bk rows y k) [ro rows 0] rfl (HM.out.ext ((Ext.refl wr).alloc _)) (some ⟨wr.heap.size, 0, none⟩) 1 1 rfl rfl HRR.out HFAR.out (by rw [HBL.out]; simp; omega) (by simp; omega) ?_; intro v7 w7 hown7 hg7 hat7
           obtain ⟨E, cE, hv7, hcE, hrE⟩ := hown7.slice
           have hx7 : Ext w3 w7 := (HX.out.alloc _).more hg7 (fun k hk => (HM.out.block k hk).1)
           rw [show (bk rows y k ++ [ro rows 0]).length = k + 1 from by rw [List.length_append, HBL.out]; rfl] at hv7 hcE
           subst hv7
           have HRE := Lib.hid hrE
           have HX7 := Lib.hid hx7
           clear hown7 hg7 hat7 hx7 hrE)
        | fail)
      go_wp2_with fail
      refine (HS1.out f w7 (HF.out.ext HX7.out) (HX3.out.trans HX7.out)).mono ?_
      rintro e w8 ⟨v8, rfl, ⟨B8, c8, rfl, _, hr8⟩, hx8⟩
      have HR8 := Lib.hid hr8
      have HX8 := Lib.hid (HX7.out.trans hx8)
      have HE8 := Lib.hid (HRE.out.ext hx8)
      clear hr8 hx8
      go_wp2_with fail
      refine (HS2.out f E cE w8 (HF.out.ext HX8.out) HE8.out hcE).mono ?_
      rintro e w9 ⟨v9, rfl, ⟨B9, c9, rfl, _, hr9⟩, hx9⟩
      have HR9 := Lib.hid hr9
      have HX89 := Lib.hid hx9
      have HX9 := Lib.hid (HX8.out.trans hx9)
      have HE9 := Lib.hid (HE8.out.ext hx9)
      clear hr9 hx9
      go_wp2_with fail
      refine (HR1.out f w9 (HF.out.ext HX9.out) (HX3.out.trans HX9.out)).mono ?_
      rintro e w10 ⟨rfl, hx10⟩
      have HX910 := Lib.hid hx10
      have HX10 := Lib.hid (HX9.out.trans hx10)
      have HE10 := Lib.hid (HE9.out.ext hx10)
      clear hx10
      go_wp2_with fail
      refine (HR2.out f E cE w10 (HF.out.ext HX10.out) HE10.out hcE).mono ?_
      rintro e w11 ⟨rfl, hx11⟩
      have HX11 := Lib.hid (HX10.out.trans hx11)
      have HX911 := Lib.hid (HX910.out.trans hx11)
      clear hx11
      go_wp2_with fail
      refine (same_tells x B8 B9 c8 c9 w11 (HR8.out.ext (HX89.out.trans HX911.out)) (HR9.out.ext HX911.out) (by omega)).mono ?_
      rintro e w12 ⟨rfl, hx12⟩
      have HX12 := Lib.hid (HX3.out.trans (HX11.out.trans hx12))
      clear hx12
      go_wp2
      go_ret
      exact ⟨rfl, HX12.out⟩
    | succ g =>
      have hk : k < n := by omega
      have hkI : (k : Int) < (n : Int) := by omega
      obtain ⟨b1, o1, B1, c1, rfl, hc1, hl1, hr1⟩ := (HA.out.ext (HX3.out.trans HX.out)) k (by rw [HN.out]; exact hk)
      have hl := HH.out.2 k (by rw [HN.out]; exact hk)
      have HR1' := Lib.hid hr1
      have HC1 := Lib.hid hc1
      clear hr1
      obtain ⟨li, hli⟩ : ∃ li, (ro rows k).length = li := ⟨_, rfl⟩
      rw [hli] at hc1 hl hl1
      have HLI := Lib.hid hli
      have HSC := Lib.hid (show sc rows y k = tab li (fun j => Gf.mul (co (ro rows k) j) y) from by unfold sc; rw [hli])
      clear hli
      go_wp2
      rename World => wo
      go_loopg [8, 46] li (fun g2 s8 s46 wx => ∃ j : Nat, j + g2 = li ∧ s46 = .int .i64 (j : Int) ∧ Mine wx wo.heap.size s8 ((sc rows y k).take j) ∧ Ext wo wx)
      case atStart => exact ⟨0, by omega, rfl, by rw [List.take_zero]; exact mine_nil0 _ _, Ext.refl _⟩
      case round =>
        obtain ⟨j, hjg, rfl, hmj, hxj⟩ := hrel
        have HMJ := Lib.hid hmj
        have HXJ := Lib.hid hxj
        clear hmj hxj
        cases gk with
        | zero =>
          obtain rfl : j = li := by omega
          clear hjg
          have hmj := HMJ.out
          rw [List.take_of_length_le (by rw [HSC.out, tab_len]; exact Nat.le_refl _)] at hmj
          obtain ⟨B8, c8, hv8, hc8, hr8⟩ := hmj.slice (by rw [HSC.out]; exact tab_sm _ _ (fun _ _ => Gf.mul_lt _ _))
          have hlsc : (sc rows y k).length = j := by rw [HSC.out, tab_len]
          rw [hlsc] at hv8 hc8
          subst hv8
          obtain ⟨A6, c6, hv6, hc6, hr6⟩ := HM.out.slice
          rw [bk_len] at hv6 hc6
          subst hv6
          have hsl : Sl wr (.slice B8 j c8) (sc rows y k) := ⟨B8, c8, by rw [hlsc], by rw [hlsc]; exact hc8, hr8⟩
          have HML := Lib.hid (mineR_lit hsl)
          have HR6 := Lib.hid (hr6.ext (HXJ.out.alloc (.cells #[.slice B8 j c8] 27)))
          have HFAR := Lib.hid (far_mineR HM.out (A := A6) (c := c6) (by rw [bk_len]) (Value.ownBlock (.slice (some ⟨wr.heap.size, 0, none⟩) 1 1)) (fun q hq => by
            have e : wr.heap.size = q := by simpa [Value.ownBlock] using hq
            have := HXJ.out.size
            omega) (HXJ.out.alloc (.cells #[.slice B8 j c8] 27)))
          have HBL := Lib.hid (bk_len rows y k)
          have hsx := HX.out.size
          have hsj := HXJ.out.size
          clear hmj hr8 hr6 hsl hlsc
          go_wp2_with (first
            | (at_builtin; refine wpList_append_rows rfl (.tmp 64) (.tmp 65) rfl wr.heap.size (.slice (some ⟨wr.heap.size, 0, none⟩) 1 1) [sc rows y k] (bk rows y k) rfl HML.out A6 k c6 rfl HBL.out HR6.out HFAR.out (by rw [HBL.out]; simp; omega) (by simp) ?_; intro v7 w7 hown7 hg7 hat7
               have hx7 : Ext w3 w7 := ((HX.out.trans HXJ.out).alloc _).more hg7 (fun q hq => by
                 have e : wr.heap.size = q := by simpa [Value.ownBlock] using hq
                 omega)
               have HO7 := Lib.hid (mineR_mono hown7 (base' := w3.heap.size) (by omega))
               have HX7 := Lib.hid hx7
               clear hown7 hg7 hat7 hx7)
            | fail)
          go_wp2
          go_roundg g
          case measure => omega
          case rel => exact ⟨k + 1, by omega, by go_num, HO7.out, HX7.out⟩
        | succ g2 =>
          have hj : j < li := by omega
          have hjI : (j : Int) < (li : Int) := by omega
          have hcj : wr.cell? ⟨b1, o1 + k, none⟩ = some (.slice B1 li c1) := (HXJ.out.below.cell (p := ⟨b1, o1 + k, none⟩) (block_lt_of_cell hc1)).trans hc1
          obtain ⟨b2, o2, rfl, hc2⟩ := (HR1'.out.ext HXJ.out).2 j (by rw [HLI.out]; exact hj)
          obtain ⟨vv, hvv⟩ : ∃ vv, Gf.mul (co (ro rows k) j) y = vv := ⟨_, rfl⟩
          have hvb : vv < 256 := by rw [← hvv]; exact Gf.mul_lt _ _
          have HMU := Lib.hid (mul_is f (co (ro rows k) j) y vv wr (HF.out.ext (HX.out.trans HXJ.out)) (HR1'.out.1 j) hy hvv)
          have HTK := Lib.hid (show (sc rows y k).take (j + 1) = (sc rows y k).take j ++ [vv] from by rw [HSC.out, tab_take li _ j hj, hvv])
          have HLT := Lib.hid (show ((sc rows y k).take j).length = j from by rw [List.length_take, HSC.out, tab_len]; omega)
          have hsj := HXJ.out.size
          clear hvv
          go_wp2_with fail
          refine HMU.out.mono ?_
          rintro e w5 ⟨rfl, q5, rfl⟩
          go_wp2_with (first
            | (at_builtin; refine wpList_append_rd rfl (.tmp 49) (.tmp 60) rfl wo.heap.size u8 ((sc rows y k).take j) [vv] rfl (mine_ext HMJ.out (((Ext.refl wr).drewN q5).alloc _)) (some ⟨wr.heap.size, 0, none⟩) 1 1 rfl rfl (rd_one (wr.drewN q5) vv hvb) (by rw [HLT.out]; simp; omega) (by simp; omega) ?_; intro v7 w7 hown7 hg7 hat7
               have hx7 : Ext wo w7 := ((HXJ.out.drewN q5).alloc _).more hg7 (fun q hq => (World.ownsRow.lt HMJ.out q hq).1)
               have HO7 := Lib.hid hown7
               have HX7 := Lib.hid hx7
               clear hown7 hg7 hat7 hx7)
            | fail)
          go_wp2
          go_roundg g2
          case measure => omega
          case rel => exact ⟨j + 1, by omega, by go_num, by rw [HTK.out]; exact HO7.out, HX7.out⟩

theorem order3_walk (C : SolveSaid) (D : RankSaid) (rows : List (List Nat)) (y : Nat) (A : Option Addr) (c : Nat) (w : World) (ha : RRd w A rows) (hmax : rows.length ≤ maxLen) (hc : rows.length ≤ c) (hy : y < 256) :
    Calls Try.prog 5 #[.slice A rows.length c, .int .u8 (y : Int)] w (Holds w) := by
  by_cases h : Few rows
  · by_cases h0 : rows.length = 0
    · exact order3_big C D rows y A c w ha hmax (.inr (.inl h0))
    · by_cases y0 : y = 0
      · exact order3_big C D rows y A c w ha hmax (.inr (.inr y0))
      · exact order3_few C D rows y A c w ha hc h (by omega) hy y0
  · exact order3_big C D rows y A c w ha hmax (.inl h)
end Go.Proofs.Ytlncelfacfflhaa

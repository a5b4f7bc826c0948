/-
  The walk of SolveOwn, under what layer 3's functions are to do; rows that a law makes one by one. Conditions: none beyond the kinds of the arguments.
-/
import Derived.Test.YtlncelfacfflhaaL3Tells
namespace Go.Proofs.Ytlncelfacfflhaa
open Go.RowKit
open Pol (co Sm)
open Lin (SolSome SolNone Cnt NotFree)

/-- Some answer; nothing that was there has changed. -/
def Some2 (w : World) (e : Ending) (w' : World) : Prop := ∃ v k : Value, e = .returned (.tuple #[v, k]) ∧ Ext w w'
theorem solve_any (C : SolveSaid) (f : Nat) (rows : List (List Nat)) (A : Option Addr) (c : Nat) (w : World) (hf : IsField w f) (hr : RRd w A rows) (hc : rows.length ≤ c) (hl : rows.length ≤ 4096) (hll : ∀ i, i < rows.length → (ro rows i).length ≤ 4096) :
    Calls Try.prog 13 #[.pointer (some ⟨f, 0, none⟩), .slice A rows.length c] w (Some2 w) := by
  by_cases ht : Rt rows
  · refine (C.solve f rows A c w hf hr hc hl hll ht).mono fun _ _ h => ?_
    rcases h with ⟨_, _, v, he, _, hx⟩ | ⟨_, v, he, _, hx⟩
    · exact ⟨v, _, he, hx⟩
    · exact ⟨v, _, he, hx⟩
  · exact (C.odd f rows A c w hf hr hc hl hll ht).mono fun _ _ ⟨v, he, _, hx⟩ => ⟨v, _, he, hx⟩
theorem rank_any (D : RankSaid) (f : Nat) (rows : List (List Nat)) (A : Option Addr) (c : Nat) (w : World) (hf : IsField w f) (hr : RRd w A rows) (hc : rows.length ≤ c) (hl : rows.length ≤ 4096) (hll : ∀ i, i < rows.length → (ro rows i).length ≤ 4096) :
    Calls Try.prog 15 #[.pointer (some ⟨f, 0, none⟩), .slice A rows.length c] w (Some2 w) := by
  by_cases ht : Rt rows
  · obtain ⟨d, hd⟩ := Lin.cnt_is (NotFree (KR (wide rows) rows)) (wide rows)
    exact (D.rank f rows A c w hf hr hc hl hll ht d hd).mono fun _ _ ⟨he, hx⟩ => ⟨_, _, he, hx⟩
  · exact (D.odd f rows A c w hf hr hc hl hll ht).mono fun _ _ ⟨he, hx⟩ => ⟨_, _, he, hx⟩
theorem rowsV_one {w : World} {v : Value} {l : List Nat} (h : Sl w v l) : RowsV w [v] [l] := ⟨rfl, fun i hi => by
  match i, hi with
  | 0, _ =>
    obtain ⟨B, c, rfl, hc, hr⟩ := h
    exact ⟨B, c, rfl, hc, hr⟩⟩
theorem take_ro (rows : List (List Nat)) (k : Nat) (h : k < rows.length) : rows.take (k + 1) = rows.take k ++ [ro rows k] := by
  rw [List.take_succ_eq_append_getElem h]
  unfold ro
  rw [List.getElem?_eq_getElem h]
  rfl
/-- A literal of one row, whose bytes lie in a block that is new: it lies in no elder block. -/
theorem far_one {w : World} {v : Value} {l : List Nat} {base : Nat} (hm : Mine w base v l) (row : Option Nat) (hrow : ∀ k, row = some k → k < base) (g : Nat) (hg : g = w.heap.size) :
    ∀ i, i < [l].length → ∀ b o n c, (∃ b' o', (some ⟨g, 0, none⟩ : Option Addr) = some ⟨b', o', none⟩ ∧ (w.alloc (.cells #[v] 27)).cell? ⟨b', o' + i, none⟩ = some (.slice (some ⟨b, o, none⟩) n c)) → 0 < n → some b ≠ row := by
  rintro i hi b o n c ⟨b', o', e, hc⟩ hn e'
  subst hg
  injection e with e
  injection e with e1 e2
  subst e1; subst e2
  have hi0 : i = 0 := by simpa using hi
  subst hi0
  rw [cell_of_row _ _ _ _ _ _ (heap_alloc_new w _)] at hc
  have hv : v = .slice (some ⟨b, o, none⟩) n c := by simpa using hc
  have hb := World.ownsRow.lt hm b (by rw [hv]; rfl)
  have := hrow b e'.symm
  omega
theorem mineR_own {w : World} {base : Nat} {v : Value} {rows : List (List Nat)} (h : MineR w base v rows) : ∀ k, v.ownBlock = some k → k < w.heap.size := fun k hk => (h.block k hk).2

set_option maxHeartbeats 1000000 in
set_option maxRecDepth 100000 in
theorem own3_big (C : SolveSaid) (D : RankSaid) (rows : List (List Nat)) (A : Option Addr) (c : Nat) (w : World) (ha : RRd w A rows) (hmax : rows.length ≤ maxLen) (h : ¬ Few rows) :
    Calls Try.prog 7 #[.slice A rows.length c] w (Holds w) := by
  have HFW := Lib.hid (fun u (hu : Ext w u) => few_says rows A c u (ha.ext hu) hmax)
  have HH := Lib.hid h
  clear ha h
  generalize rows.length = n at *
  go_enter Try.func7, Try.ntmps7
  go_wp2_with fail
  refine (awake3 C D w).mono ?_
  rintro e w1 ⟨rfl, hx1⟩
  have HX1 := Lib.hid hx1
  clear hx1
  go_wp2_with fail
  refine (HFW.out w1 HX1.out).mono ?_
  rintro e w2 (⟨hp, _⟩ | ⟨_, rfl, q, rfl⟩)
  · exact absurd hp HH.out
  · go_wp2_with fail
    refine (awake3 C D (w1.drewN q)).mono ?_
    rintro e w3 ⟨rfl, hx3⟩
    have HX3 := Lib.hid (((HX1.out).drewN q).trans hx3)
    clear hx3
    go_wp2
    go_ret
    exact ⟨rfl, HX3.out⟩

set_option maxHeartbeats 2000000 in
set_option maxRecDepth 100000 in
theorem own3_few (C : SolveSaid) (D : RankSaid) (rows : List (List Nat)) (A : Option Addr) (c : Nat) (w : World) (ha : RRd w A rows) (h : Few rows) :
    Calls Try.prog 7 #[.slice A rows.length c] w (Holds w) := by
  have HFW := Lib.hid (fun u (hu : Ext w u) => few_says rows A c u (ha.ext hu) (by unfold maxLen; have := h.1; omega))
  have HSO := Lib.hid (fun f B cB u (hf : IsField u f) (hr : RRd u B rows) (hc : rows.length ≤ cB) => solve_any C f rows B cB u hf hr hc (few_len h) (few_rows h))
  have HRK := Lib.hid (fun f B cB u (hf : IsField u f) (hr : RRd u B rows) (hc : rows.length ≤ cB) => rank_any D f rows B cB u hf hr hc (few_len h) (few_rows h))
  have hl12 := h.1
  have HA := Lib.hid ha
  have HH := Lib.hid h
  obtain ⟨n, hn⟩ : ∃ n, rows.length = n := ⟨_, rfl⟩
  rw [hn] at hl12 HFW HSO HRK ⊢
  have HN := Lib.hid hn
  clear ha h hn
  go_enter Try.func7, Try.ntmps7
  go_wp2_with fail
  refine (awake3 C D w).mono ?_
  rintro e w1 ⟨rfl, hx1⟩
  have HX1 := Lib.hid hx1
  clear hx1
  go_wp2_with fail
  refine (HFW.out w1 HX1.out).mono ?_
  rintro e w2 (⟨_, rfl, q, rfl⟩ | ⟨hp, _⟩)
  rotate_left
  · exact absurd HH.out hp
  go_wp2_with fail
  refine (new_any (w1.drewN q)).mono ?_
  rintro e w3 ⟨f, rfl, hf, hfs, hx3⟩
  have HF := Lib.hid hf
  have HX3 := Lib.hid ((HX1.out.drewN q).trans hx3)
  clear hf hx3 hfs
  go_wp2
  go_loopg [4, 18] n (fun g s4 s18 wx => ∃ k : Nat, k + g = n ∧ s18 = .int .i64 (k : Int) ∧ MineR wx w3.heap.size s4 (rows.take k) ∧ Ext w3 wx)
  case atStart => exact ⟨0, by omega, rfl, by rw [List.take_zero]; exact MineR.nil _ _, Ext.refl _⟩
  case round =>
    obtain ⟨k, hkg, rfl, hmr, hx⟩ := hrel
    have HM := Lib.hid hmr
    have HX := Lib.hid hx
    clear hmr hx
    cases gk with
    | zero =>
      obtain rfl : k = n := by omega
      clear hkg
      obtain ⟨B, cB, hv, hcB, hrr⟩ := HM.out.slice
      rw [List.take_of_length_le (by rw [HN.out]; exact Nat.le_refl _)] at hv hcB hrr
      rw [HN.out] at hv hcB
      subst hv
      have HRR := Lib.hid hrr
      have HFx := Lib.hid (HF.out.ext HX.out)
      clear hrr
      go_wp2_with fail
      refine (HSO.out f B cB wr HFx.out HRR.out hcB).mono ?_
      rintro e w4 ⟨v, kk, rfl, hx4⟩
      have HX4 := Lib.hid hx4
      clear hx4
      go_wp2_with fail
      refine (HRK.out f B cB w4 (HFx.out.ext HX4.out) (HRR.out.ext HX4.out) hcB).mono ?_
      rintro e w5 ⟨v', kk', rfl, hx5⟩
      have HR5 := Lib.hid (HRR.out.ext (HX4.out.trans hx5))
      have HA5 := Lib.hid (HA.out.ext (HX3.out.trans (HX.out.trans (HX4.out.trans hx5))))
      have HX5 := Lib.hid (HX3.out.trans (HX.out.trans (HX4.out.trans hx5)))
      clear hx5
      go_wp2
      go_loopg [39] k (fun g s wx => ∃ i q5 : Nat, i + g = k ∧ s = .int .i64 (i : Int) ∧ wx = w5.drewN q5)
      case atStart => exact ⟨0, 0, by omega, rfl, rfl⟩
      case round =>
        obtain ⟨i, q5, hig, rfl, rfl⟩ := hrel
        cases gk with
        | zero =>
          obtain rfl : i = k := by omega
          clear hig
          go_wp2
          go_ret
          exact ⟨rfl, HX5.out.drewN q5⟩
        | succ g5 =>
          have hi : i < k := by omega
          have hiI : (i : Int) < (k : Int) := by omega
          obtain ⟨b1, o1, B1, c1, rfl, hc1, _, hr1⟩ := HA5.out i (by rw [HN.out]; exact hi)
          obtain ⟨b2, o2, B2, c2, rfl, hc2, _, hr2⟩ := HR5.out i (by rw [HN.out]; exact hi)
          have hl := HH.out.2 i (by rw [HN.out]; exact hi)
          have d1 : (w5.drewN q5).cell? ⟨b1, o1 + i, none⟩ = some (.slice B1 (ro rows i).length c1) := hc1
          have d2 : (w5.drewN q5).cell? ⟨b2, o2 + i, none⟩ = some (.slice B2 (ro rows i).length c2) := hc2
          have e1 : Rd (w5.drewN q5) B1 (ro rows i) := hr1
          have e2 : Rd (w5.drewN q5) B2 (ro rows i) := hr2
          generalize hW : w5.drewN q5 = W at d1 d2 e1 e2 ⊢
          have HW := Lib.hid hW
          have HSM := Lib.hid (fun q => same_true (ro rows i) B1 B2 c1 c2 (W.drewN q) (e1.drewN q) (e2.drewN q) (by omega))
          clear hW hc1 hc2 hr1 hr2 e1 e2
          generalize (ro rows i).length = li at *
          go_wp2
          go_quiet (first | (go_at_call 18; exact quiet_hands (HSM.out _)))
          go_wp2
          go_roundg g5
          case measure => omega
          case rel => exact ⟨i + 1, q5 + nq, by omega, by go_num, by rw [← HW.out, World.drewN_drewN]⟩
    | succ g =>
      have hk : k < n := by omega
      have hkI : (k : Int) < (n : Int) := by omega
      obtain ⟨b1, o1, B1, c1, rfl, hc1, _, hr1⟩ := (HA.out.ext (HX3.out.trans HX.out)) k (by rw [HN.out]; exact hk)
      have hl := HH.out.2 k (by rw [HN.out]; exact hk)
      have HR1 := Lib.hid hr1
      have HT := Lib.hid (take_ro rows k (by rw [HN.out]; exact hk))
      have HLT := Lib.hid (show (rows.take k).length = k from by rw [List.length_take, HN.out]; omega)
      clear hr1
      obtain ⟨li, hli⟩ : ∃ li, (ro rows k).length = li := ⟨_, rfl⟩
      rw [hli] at hc1 hl
      have HLI := Lib.hid hli
      have hc1' := (((Ext.refl wr).alloc (.cells #[] 5)).below.cell (p := ⟨b1, o1 + k, none⟩) (block_lt_of_cell hc1)).trans hc1
      clear hli
      go_wp2_with (first
        | (at_builtin; refine wpList_append_rd rfl (.tmp 22) (.tmp 26) rfl wr.heap.size (.slice (some ⟨wr.heap.size, 0, none⟩) 0 0) [] (ro rows k) rfl (mine_empty wr) B1 li c1 rfl HLI.out (HR1.out.ext ((Ext.refl _).alloc _)) (by rw [HLI.out, List.length_nil]; omega) (by simp) ?_; intro v2 w6 hown2 hg2 hat2
           rw [List.nil_append] at hown2
           obtain ⟨B2, cB2, rfl, hcB2, hrB2⟩ := hown2.slice HR1.out.1
           have HRB2 := Lib.hid hrB2
           clear hrB2
           rw [HLI.out] at hown2 hcB2 ⊢
           have hx6 : Ext wr w6 := ((Ext.refl wr).alloc _).more hg2 (by intro k hk; simp [Value.ownBlock] at hk; omega)
           have hsl : Sl w6 (.slice B2 li cB2) (ro rows k) := ⟨B2, cB2, by rw [HLI.out], by rw [HLI.out]; exact hcB2, HRB2.out⟩
           have hmr6 := HM.out.ext hx6
           have HFAR := Lib.hid (far_one hown2 u4.ownBlock (mineR_own HM.out) w6.heap.size rfl)
           have HRR := Lib.hid (rrd_lit w6 [.slice B2 li cB2] [ro rows k] (rowsV_one hsl))
           have HMR := Lib.hid (hmr6.ext ((Ext.refl w6).alloc (.cells #[.slice B2 li cB2] 27)))
           have HX6 := Lib.hid hx6
           have hs6 := (HX.out.trans hx6).size
           clear hown2 hg2 hat2 hsl hmr6 hx6)
        | (at_builtin; refine wpList_append_rows rfl (.tmp 21) (.tmp 28) rfl w3.heap.size u4 (rows.take k) [ro rows k] rfl HMR.out (some ⟨w6.heap.size, 0, none⟩) 1 1 rfl rfl HRR.out HFAR.out (by rw [HLT.out]; simp; omega) (by simp; omega) ?_; intro v7 w7 hown7 hg7 hat7))
      have hx7 : Ext w3 w7 := ((HX.out.trans HX6.out).alloc _).more hg7 (fun k hk => (HM.out.block k hk).1)
      rw [← HT.out] at hown7
      have HO7 := Lib.hid hown7
      have HX7 := Lib.hid hx7
      clear hown7 hg7 hat7 hx7
      go_wp2
      go_roundg g
      case measure => omega
      case rel => exact ⟨k + 1, by omega, by go_num, HO7.out, HX7.out⟩

theorem own3_walk (C : SolveSaid) (D : RankSaid) (rows : List (List Nat)) (A : Option Addr) (c : Nat) (w : World) (ha : RRd w A rows) (hmax : rows.length ≤ maxLen) :
    Calls Try.prog 7 #[.slice A rows.length c] w (Holds w) := by
  by_cases h : Few rows
  · exact own3_few C D rows A c w ha h
  · exact own3_big C D rows A c w ha hmax h
end Go.Proofs.Ytlncelfacfflhaa
